/- Layer 7: may a frame be, by the document. -/
import Derived.Test.YtpedobpbpomkaaaFr1
set_option linter.unusedSimpArgs false
set_option linter.unusedVariables false
namespace Go.Proofs.Ytpedobpbpomkaaa
open Go.RowKit
set_option maxRecDepth 100000

set_option maxHeartbeats 4000000 in
theorem rfmay_any (f : FrD) (A : Option Addr) (c : Nat) (w : World) (hA : Bs w A f.l) (ho : f.ok) (hL : f.l.length ≤ 100000) : Calls Try.prog 17 #[.agg (frC f A c)] w fun e w' => e = .returned (.bool (mayF f)) ∧ Below w.heap.size w w' := by
  have hN := rnone_any f.l f.n A c (w.alloc (.cells (frC f A c) 30))
  have hno := And.intro ho.2.2.2.2.2.2.2.2.1 ho.2.2.2.2.2.2.2.2.2
  have hS := fun (W : World) (hb : Below w.heap.size w W) => refSound_any A c f.l f.n W (hA.below hb) hno (by omega)
  obtain ⟨nn, hnn⟩ : ∃ nn, nn = (decide (f.n = 0) && decide (f.l.length = 0)) := ⟨_, rfl⟩
  obtain ⟨sb, hsb⟩ : ∃ sb, sb = soundB f.l f.n := ⟨_, rfl⟩
  obtain ⟨r, hr⟩ : ∃ r, r = mayF f := ⟨_, rfl⟩
  rw [← hr]
  unfold mayF emptyF bringF noneF at hr
  rw [← hnn, ← hsb] at hr
  rw [← hnn] at hN
  rw [← hsb] at hS
  clear hA ho hno hnn hsb
  obtain ⟨kd, ep, se, fc, fb, fn, cn, cl, sm, l, n⟩ := f
  simp only [frC] at hr hN hS hL ⊢
  have HN := Lib.hid hN
  have HS := Lib.hid hS
  have HK0 := Lib.hid ((Qs.zero w).box #[.int .u8 (kd : Nat), .int .u32 (ep : Nat), .int .u32 (se : Nat), .int .u32 (fc : Nat), .int .u32 (fb : Nat), .int .u32 (fn : Nat), .int .u32 (cn : Nat), .bool cl, .int .u64 (sm : Nat), .slice A l.length c, .int .i64 n] 30)
  have hP := fun w => eqPl0_run fc fb fn w
  clear hN hS
  have C := HK0.out.says
  simp only [sayAll, cellsSay, qB, qW, Nat.reduceAdd, and_true, true_and] at C
  by_cases k1 : kd = 1
  · subst k1
    rw [if_pos rfl] at hr
    by_cases c0 : nn = true
    rotate_left
    · have hn0 : nn = false := by simpa using c0
      subst hn0
      have Hr := Lib.hid (show r = false by rw [hr]; simp)
      clear hr 
      go_enter Try.func17, Try.ntmps17
      go_wp2_with fail
      refine HN.out.mono ?_
      rintro e w1 ⟨rfl, b1⟩
      have HK := Lib.hid (HK0.out.go b1)
      clear C b1 HN
      have C := HK.out.says
      simp only [sayAll, cellsSay, qB, qW, Nat.reduceAdd, and_true, true_and] at C
      go_wp2_with fail
      go_ret
      exact ⟨by rw [Hr.out]; rfl, HK.out.top 1⟩
    have hn0 : nn = true := by exact c0
    subst hn0
    by_cases c1 : se = 0
    rotate_left
    · have h_se : (((se : Nat) : Int) == 0) = false := beq_eq_false_iff_ne.2 (by omega)
      have Hr := Lib.hid (show r = false by rw [hr]; rw [decide_eq_false c1]; simp)
      clear hr c1
      go_enter Try.func17, Try.ntmps17
      go_wp2_with fail
      refine HN.out.mono ?_
      rintro e w1 ⟨rfl, b1⟩
      have HK := Lib.hid (HK0.out.go b1)
      clear C b1 HN
      have C := HK.out.says
      simp only [sayAll, cellsSay, qB, qW, Nat.reduceAdd, and_true, true_and] at C
      go_wp2_with fail
      go_ret
      exact ⟨by rw [Hr.out]; rfl, HK.out.top 1⟩
    have h_se : (((se : Nat) : Int) == 0) = true := beq_iff_eq.2 (by omega)
    by_cases c2 : fc = 0 ∧ fb = 0 ∧ fn = 0
    rotate_left
    · rw [decide_eq_false c2] at hP
      have Hr := Lib.hid (show r = false by rw [hr]; rw [decide_eq_false c2]; simp)
      clear hr c1 c2
      go_enter Try.func17, Try.ntmps17
      go_wp2_with fail
      refine HN.out.mono ?_
      rintro e w1 ⟨rfl, b1⟩
      have HK := Lib.hid (HK0.out.go b1)
      clear C b1 HN
      have C := HK.out.says
      simp only [sayAll, cellsSay, qB, qW, Nat.reduceAdd, and_true, true_and] at C
      go_wp2_with fail
      go_ret
      exact ⟨by rw [Hr.out]; rfl, HK.out.top 1⟩
    rw [decide_eq_true c2] at hP
    by_cases c3 : cn = 0
    rotate_left
    · have h_cn : (((cn : Nat) : Int) == 0) = false := beq_eq_false_iff_ne.2 (by omega)
      have Hr := Lib.hid (show r = false by rw [hr]; rw [decide_eq_false c3]; simp)
      clear hr c1 c2 c3
      go_enter Try.func17, Try.ntmps17
      go_wp2_with fail
      refine HN.out.mono ?_
      rintro e w1 ⟨rfl, b1⟩
      have HK := Lib.hid (HK0.out.go b1)
      clear C b1 HN
      have C := HK.out.says
      simp only [sayAll, cellsSay, qB, qW, Nat.reduceAdd, and_true, true_and] at C
      go_wp2_with fail
      go_ret
      exact ⟨by rw [Hr.out]; rfl, HK.out.top 1⟩
    have h_cn : (((cn : Nat) : Int) == 0) = true := beq_iff_eq.2 (by omega)
    by_cases c4 : cl = false
    rotate_left
    · have hcl : cl = true := by simpa using c4
      have Hr := Lib.hid (show r = false by rw [hr]; rw [hcl]; simp)
      subst hcl
      clear hr c1 c2 c3
      go_enter Try.func17, Try.ntmps17
      go_wp2_with fail
      refine HN.out.mono ?_
      rintro e w1 ⟨rfl, b1⟩
      have HK := Lib.hid (HK0.out.go b1)
      clear C b1 HN
      have C := HK.out.says
      simp only [sayAll, cellsSay, qB, qW, Nat.reduceAdd, and_true, true_and] at C
      go_wp2_with fail
      go_ret
      exact ⟨by rw [Hr.out]; rfl, HK.out.top 1⟩
    have hcl : cl = false := by simpa using c4
    by_cases c5 : sm = 0
    rotate_left
    · have h_sm : (((sm : Nat) : Int) == 0) = false := beq_eq_false_iff_ne.2 (by omega)
      have Hr := Lib.hid (show r = false by rw [hr]; rw [decide_eq_false c5]; simp)
      subst hcl
      clear hr c1 c2 c3 c5
      go_enter Try.func17, Try.ntmps17
      go_wp2_with fail
      refine HN.out.mono ?_
      rintro e w1 ⟨rfl, b1⟩
      have HK := Lib.hid (HK0.out.go b1)
      clear C b1 HN
      have C := HK.out.says
      simp only [sayAll, cellsSay, qB, qW, Nat.reduceAdd, and_true, true_and] at C
      go_wp2_with fail
      go_ret
      exact ⟨by rw [Hr.out]; rfl, HK.out.top 1⟩
    have h_sm : (((sm : Nat) : Int) == 0) = true := beq_iff_eq.2 (by omega)
    have Hr := Lib.hid (show r = true by rw [hr, decide_eq_true c1, decide_eq_true c2, decide_eq_true c3, decide_eq_true c5, hcl]; simp)
    subst hcl
    clear hr c1 c2 c3 c5
    go_enter Try.func17, Try.ntmps17
    go_wp2_with fail
    refine HN.out.mono ?_
    rintro e w1 ⟨rfl, b1⟩
    have HK := Lib.hid (HK0.out.go b1)
    clear C b1 HN
    have C := HK.out.says
    simp only [sayAll, cellsSay, qB, qW, Nat.reduceAdd, and_true, true_and] at C
    go_wp2_with fail
    go_ret
    exact ⟨by rw [Hr.out]; rfl, HK.out.top 1⟩
  by_cases k4 : kd = 4 ∨ kd = 5
  · rw [if_neg k1, if_pos k4] at hr
    clear k1 hP
    by_cases c0 : nn = true
    rotate_left
    · have hn0 : nn = false := by simpa using c0
      subst hn0
      have Hr := Lib.hid (show r = false by rw [hr]; simp)
      clear hr 
      rcases k4 with rfl | rfl
      · go_enter Try.func17, Try.ntmps17
        go_wp2_with fail
        refine HN.out.mono ?_
        rintro e w1 ⟨rfl, b1⟩
        have HK := Lib.hid (HK0.out.go b1)
        clear C b1 HN
        have C := HK.out.says
        simp only [sayAll, cellsSay, qB, qW, Nat.reduceAdd, and_true, true_and] at C
        go_wp2_with fail
        go_ret
        exact ⟨by rw [Hr.out]; rfl, HK.out.top 1⟩
      · go_enter Try.func17, Try.ntmps17
        go_wp2_with fail
        refine HN.out.mono ?_
        rintro e w1 ⟨rfl, b1⟩
        have HK := Lib.hid (HK0.out.go b1)
        clear C b1 HN
        have C := HK.out.says
        simp only [sayAll, cellsSay, qB, qW, Nat.reduceAdd, and_true, true_and] at C
        go_wp2_with fail
        go_ret
        exact ⟨by rw [Hr.out]; rfl, HK.out.top 1⟩
    have hn0 : nn = true := by exact c0
    subst hn0
    by_cases c1 : cn = 0
    rotate_left
    · have h_cn : (((cn : Nat) : Int) == 0) = false := beq_eq_false_iff_ne.2 (by omega)
      have Hr := Lib.hid (show r = false by rw [hr]; rw [decide_eq_false c1]; simp)
      clear hr c1
      rcases k4 with rfl | rfl
      · go_enter Try.func17, Try.ntmps17
        go_wp2_with fail
        refine HN.out.mono ?_
        rintro e w1 ⟨rfl, b1⟩
        have HK := Lib.hid (HK0.out.go b1)
        clear C b1 HN
        have C := HK.out.says
        simp only [sayAll, cellsSay, qB, qW, Nat.reduceAdd, and_true, true_and] at C
        go_wp2_with fail
        go_ret
        exact ⟨by rw [Hr.out]; rfl, HK.out.top 1⟩
      · go_enter Try.func17, Try.ntmps17
        go_wp2_with fail
        refine HN.out.mono ?_
        rintro e w1 ⟨rfl, b1⟩
        have HK := Lib.hid (HK0.out.go b1)
        clear C b1 HN
        have C := HK.out.says
        simp only [sayAll, cellsSay, qB, qW, Nat.reduceAdd, and_true, true_and] at C
        go_wp2_with fail
        go_ret
        exact ⟨by rw [Hr.out]; rfl, HK.out.top 1⟩
    have h_cn : (((cn : Nat) : Int) == 0) = true := beq_iff_eq.2 (by omega)
    by_cases c2 : cl = false
    rotate_left
    · have hcl : cl = true := by simpa using c2
      have Hr := Lib.hid (show r = false by rw [hr]; rw [hcl]; simp)
      subst hcl
      clear hr c1
      rcases k4 with rfl | rfl
      · go_enter Try.func17, Try.ntmps17
        go_wp2_with fail
        refine HN.out.mono ?_
        rintro e w1 ⟨rfl, b1⟩
        have HK := Lib.hid (HK0.out.go b1)
        clear C b1 HN
        have C := HK.out.says
        simp only [sayAll, cellsSay, qB, qW, Nat.reduceAdd, and_true, true_and] at C
        go_wp2_with fail
        go_ret
        exact ⟨by rw [Hr.out]; rfl, HK.out.top 1⟩
      · go_enter Try.func17, Try.ntmps17
        go_wp2_with fail
        refine HN.out.mono ?_
        rintro e w1 ⟨rfl, b1⟩
        have HK := Lib.hid (HK0.out.go b1)
        clear C b1 HN
        have C := HK.out.says
        simp only [sayAll, cellsSay, qB, qW, Nat.reduceAdd, and_true, true_and] at C
        go_wp2_with fail
        go_ret
        exact ⟨by rw [Hr.out]; rfl, HK.out.top 1⟩
    have hcl : cl = false := by simpa using c2
    have Hr := Lib.hid (show r = true by rw [hr, decide_eq_true c1, hcl]; simp)
    subst hcl
    clear hr c1
    rcases k4 with rfl | rfl
    · go_enter Try.func17, Try.ntmps17
      go_wp2_with fail
      refine HN.out.mono ?_
      rintro e w1 ⟨rfl, b1⟩
      have HK := Lib.hid (HK0.out.go b1)
      clear C b1 HN
      have C := HK.out.says
      simp only [sayAll, cellsSay, qB, qW, Nat.reduceAdd, and_true, true_and] at C
      go_wp2_with fail
      go_ret
      exact ⟨by rw [Hr.out]; rfl, HK.out.top 1⟩
    · go_enter Try.func17, Try.ntmps17
      go_wp2_with fail
      refine HN.out.mono ?_
      rintro e w1 ⟨rfl, b1⟩
      have HK := Lib.hid (HK0.out.go b1)
      clear C b1 HN
      have C := HK.out.says
      simp only [sayAll, cellsSay, qB, qW, Nat.reduceAdd, and_true, true_and] at C
      go_wp2_with fail
      go_ret
      exact ⟨by rw [Hr.out]; rfl, HK.out.top 1⟩
  by_cases k2 : kd = 2 ∨ kd = 3
  · have hr2 : r = (sb && decide (0 < n) && decide (fn < cn) && decide (l.length ≤ 4052) && (decide (kd = 2) || (decide (fb = 0) && decide (fn = 0) && decide (sm = 0)))) := by
      rw [hr, if_neg k1, if_neg k4]
      rcases k2 with rfl | rfl
      · rw [if_pos rfl]; simp
      · rw [if_neg (by decide), if_pos rfl]; simp [Bool.and_comm, Bool.and_assoc, Bool.and_left_comm]
    clear hr k1 k4 hP
    by_cases c0 : sb = true
    rotate_left
    · have hs0 : sb = false := by simpa using c0
      subst hs0
      have Hr := Lib.hid (show r = false by rw [hr2]; simp)
      clear hr2 
      rcases k2 with rfl | rfl
      · go_enter Try.func17, Try.ntmps17
        go_wp2_with fail
        refine HN.out.mono ?_
        rintro e w1 ⟨rfl, b1⟩
        have HK := Lib.hid (HK0.out.go b1)
        clear C b1 HN
        have C := HK.out.says
        simp only [sayAll, cellsSay, qB, qW, Nat.reduceAdd, and_true, true_and] at C
        go_wp2_with fail
        refine (HS.out _ (HK.out.top 1)).mono ?_
        rintro e w2 ⟨rfl, b2⟩
        have HK2 := Lib.hid (HK.out.go b2)
        clear C b2 HS
        have C := HK2.out.says
        simp only [sayAll, cellsSay, qB, qW, Nat.reduceAdd, and_true, true_and] at C
        go_wp2_with fail
        go_ret
        exact ⟨by rw [Hr.out]; rfl, HK2.out.top 1⟩
      · go_enter Try.func17, Try.ntmps17
        go_wp2_with fail
        refine HN.out.mono ?_
        rintro e w1 ⟨rfl, b1⟩
        have HK := Lib.hid (HK0.out.go b1)
        clear C b1 HN
        have C := HK.out.says
        simp only [sayAll, cellsSay, qB, qW, Nat.reduceAdd, and_true, true_and] at C
        go_wp2_with fail
        refine (HS.out _ (HK.out.top 1)).mono ?_
        rintro e w2 ⟨rfl, b2⟩
        have HK2 := Lib.hid (HK.out.go b2)
        clear C b2 HS
        have C := HK2.out.says
        simp only [sayAll, cellsSay, qB, qW, Nat.reduceAdd, and_true, true_and] at C
        go_wp2_with fail
        go_ret
        exact ⟨by rw [Hr.out]; rfl, HK2.out.top 1⟩
    have hs0 : sb = true := by exact c0
    subst hs0
    by_cases c1 : 0 < n
    rotate_left
    · have h_n : decide (n < 1) = true := decide_eq_true (by omega)
      have Hr := Lib.hid (show r = false by rw [hr2]; rw [decide_eq_false c1]; simp)
      clear hr2 c1
      rcases k2 with rfl | rfl
      · go_enter Try.func17, Try.ntmps17
        go_wp2_with fail
        refine HN.out.mono ?_
        rintro e w1 ⟨rfl, b1⟩
        have HK := Lib.hid (HK0.out.go b1)
        clear C b1 HN
        have C := HK.out.says
        simp only [sayAll, cellsSay, qB, qW, Nat.reduceAdd, and_true, true_and] at C
        go_wp2_with fail
        refine (HS.out _ (HK.out.top 1)).mono ?_
        rintro e w2 ⟨rfl, b2⟩
        have HK2 := Lib.hid (HK.out.go b2)
        clear C b2 HS
        have C := HK2.out.says
        simp only [sayAll, cellsSay, qB, qW, Nat.reduceAdd, and_true, true_and] at C
        go_wp2_with fail
        go_ret
        exact ⟨by rw [Hr.out]; rfl, HK2.out.top 1⟩
      · go_enter Try.func17, Try.ntmps17
        go_wp2_with fail
        refine HN.out.mono ?_
        rintro e w1 ⟨rfl, b1⟩
        have HK := Lib.hid (HK0.out.go b1)
        clear C b1 HN
        have C := HK.out.says
        simp only [sayAll, cellsSay, qB, qW, Nat.reduceAdd, and_true, true_and] at C
        go_wp2_with fail
        refine (HS.out _ (HK.out.top 1)).mono ?_
        rintro e w2 ⟨rfl, b2⟩
        have HK2 := Lib.hid (HK.out.go b2)
        clear C b2 HS
        have C := HK2.out.says
        simp only [sayAll, cellsSay, qB, qW, Nat.reduceAdd, and_true, true_and] at C
        go_wp2_with fail
        go_ret
        exact ⟨by rw [Hr.out]; rfl, HK2.out.top 1⟩
    have h_n : decide (n < 1) = false := decide_eq_false (by omega)
    by_cases c2 : fn < cn
    rotate_left
    · have h_f : decide (cn ≤ fn) = true := decide_eq_true (by omega)
      have Hr := Lib.hid (show r = false by rw [hr2]; rw [decide_eq_false c2]; simp)
      clear hr2 c1 c2
      rcases k2 with rfl | rfl
      · go_enter Try.func17, Try.ntmps17
        go_wp2_with fail
        refine HN.out.mono ?_
        rintro e w1 ⟨rfl, b1⟩
        have HK := Lib.hid (HK0.out.go b1)
        clear C b1 HN
        have C := HK.out.says
        simp only [sayAll, cellsSay, qB, qW, Nat.reduceAdd, and_true, true_and] at C
        go_wp2_with fail
        refine (HS.out _ (HK.out.top 1)).mono ?_
        rintro e w2 ⟨rfl, b2⟩
        have HK2 := Lib.hid (HK.out.go b2)
        clear C b2 HS
        have C := HK2.out.says
        simp only [sayAll, cellsSay, qB, qW, Nat.reduceAdd, and_true, true_and] at C
        go_wp2_with fail
        go_ret
        exact ⟨by rw [Hr.out]; rfl, HK2.out.top 1⟩
      · go_enter Try.func17, Try.ntmps17
        go_wp2_with fail
        refine HN.out.mono ?_
        rintro e w1 ⟨rfl, b1⟩
        have HK := Lib.hid (HK0.out.go b1)
        clear C b1 HN
        have C := HK.out.says
        simp only [sayAll, cellsSay, qB, qW, Nat.reduceAdd, and_true, true_and] at C
        go_wp2_with fail
        refine (HS.out _ (HK.out.top 1)).mono ?_
        rintro e w2 ⟨rfl, b2⟩
        have HK2 := Lib.hid (HK.out.go b2)
        clear C b2 HS
        have C := HK2.out.says
        simp only [sayAll, cellsSay, qB, qW, Nat.reduceAdd, and_true, true_and] at C
        go_wp2_with fail
        go_ret
        exact ⟨by rw [Hr.out]; rfl, HK2.out.top 1⟩
    have h_f : decide (cn ≤ fn) = false := decide_eq_false (by omega)
    by_cases c3 : l.length ≤ 4052
    rotate_left
    · have h_l : decide ((4052 : Int) < (l.length : Int)) = true := decide_eq_true (by omega)
      have Hr := Lib.hid (show r = false by rw [hr2]; rw [decide_eq_false c3]; simp)
      clear hr2 c1 c2 c3
      rcases k2 with rfl | rfl
      · go_enter Try.func17, Try.ntmps17
        go_wp2_with fail
        refine HN.out.mono ?_
        rintro e w1 ⟨rfl, b1⟩
        have HK := Lib.hid (HK0.out.go b1)
        clear C b1 HN
        have C := HK.out.says
        simp only [sayAll, cellsSay, qB, qW, Nat.reduceAdd, and_true, true_and] at C
        go_wp2_with fail
        refine (HS.out _ (HK.out.top 1)).mono ?_
        rintro e w2 ⟨rfl, b2⟩
        have HK2 := Lib.hid (HK.out.go b2)
        clear C b2 HS
        have C := HK2.out.says
        simp only [sayAll, cellsSay, qB, qW, Nat.reduceAdd, and_true, true_and] at C
        go_wp2_with fail
        go_ret
        exact ⟨by rw [Hr.out]; rfl, HK2.out.top 1⟩
      · go_enter Try.func17, Try.ntmps17
        go_wp2_with fail
        refine HN.out.mono ?_
        rintro e w1 ⟨rfl, b1⟩
        have HK := Lib.hid (HK0.out.go b1)
        clear C b1 HN
        have C := HK.out.says
        simp only [sayAll, cellsSay, qB, qW, Nat.reduceAdd, and_true, true_and] at C
        go_wp2_with fail
        refine (HS.out _ (HK.out.top 1)).mono ?_
        rintro e w2 ⟨rfl, b2⟩
        have HK2 := Lib.hid (HK.out.go b2)
        clear C b2 HS
        have C := HK2.out.says
        simp only [sayAll, cellsSay, qB, qW, Nat.reduceAdd, and_true, true_and] at C
        go_wp2_with fail
        go_ret
        exact ⟨by rw [Hr.out]; rfl, HK2.out.top 1⟩
    have h_l : decide ((4052 : Int) < (l.length : Int)) = false := decide_eq_false (by omega)
    rw [decide_eq_true c1, decide_eq_true c2, decide_eq_true c3] at hr2
    clear c1 c2 c3
    rcases k2 with rfl | rfl
    · have Hr := Lib.hid (show r = true by rw [hr2]; simp)
      clear hr2
      go_enter Try.func17, Try.ntmps17
      go_wp2_with fail
      refine HN.out.mono ?_
      rintro e w1 ⟨rfl, b1⟩
      have HK := Lib.hid (HK0.out.go b1)
      clear C b1 HN
      have C := HK.out.says
      simp only [sayAll, cellsSay, qB, qW, Nat.reduceAdd, and_true, true_and] at C
      go_wp2_with fail
      refine (HS.out _ (HK.out.top 1)).mono ?_
      rintro e w2 ⟨rfl, b2⟩
      have HK2 := Lib.hid (HK.out.go b2)
      clear C b2 HS
      have C := HK2.out.says
      simp only [sayAll, cellsSay, qB, qW, Nat.reduceAdd, and_true, true_and] at C
      go_wp2_with fail
      go_ret
      exact ⟨by rw [Hr.out]; rfl, HK2.out.top 1⟩
    · by_cases c0 : fb = 0
      rotate_left
      · have h_fb : (((fb : Nat) : Int) == 0) = false := beq_eq_false_iff_ne.2 (by omega)
        have Hr := Lib.hid (show r = false by rw [hr2, decide_eq_false c0]; simp)
        clear hr2 c0
        go_enter Try.func17, Try.ntmps17
        go_wp2_with fail
        refine HN.out.mono ?_
        rintro e w1 ⟨rfl, b1⟩
        have HK := Lib.hid (HK0.out.go b1)
        clear C b1 HN
        have C := HK.out.says
        simp only [sayAll, cellsSay, qB, qW, Nat.reduceAdd, and_true, true_and] at C
        go_wp2_with fail
        refine (HS.out _ (HK.out.top 1)).mono ?_
        rintro e w2 ⟨rfl, b2⟩
        have HK2 := Lib.hid (HK.out.go b2)
        clear C b2 HS
        have C := HK2.out.says
        simp only [sayAll, cellsSay, qB, qW, Nat.reduceAdd, and_true, true_and] at C
        go_wp2_with fail
        go_ret
        exact ⟨by rw [Hr.out]; rfl, HK2.out.top 1⟩
      have h_fb : (((fb : Nat) : Int) == 0) = true := beq_iff_eq.2 (by omega)
      by_cases c1 : fn = 0
      rotate_left
      · have h_fn : (((fn : Nat) : Int) == 0) = false := beq_eq_false_iff_ne.2 (by omega)
        have Hr := Lib.hid (show r = false by rw [hr2, decide_eq_false c1]; simp)
        clear hr2 c0 c1
        go_enter Try.func17, Try.ntmps17
        go_wp2_with fail
        refine HN.out.mono ?_
        rintro e w1 ⟨rfl, b1⟩
        have HK := Lib.hid (HK0.out.go b1)
        clear C b1 HN
        have C := HK.out.says
        simp only [sayAll, cellsSay, qB, qW, Nat.reduceAdd, and_true, true_and] at C
        go_wp2_with fail
        refine (HS.out _ (HK.out.top 1)).mono ?_
        rintro e w2 ⟨rfl, b2⟩
        have HK2 := Lib.hid (HK.out.go b2)
        clear C b2 HS
        have C := HK2.out.says
        simp only [sayAll, cellsSay, qB, qW, Nat.reduceAdd, and_true, true_and] at C
        go_wp2_with fail
        go_ret
        exact ⟨by rw [Hr.out]; rfl, HK2.out.top 1⟩
      have h_fn : (((fn : Nat) : Int) == 0) = true := beq_iff_eq.2 (by omega)
      by_cases c2 : sm = 0
      rotate_left
      · have h_sm : (((sm : Nat) : Int) == 0) = false := beq_eq_false_iff_ne.2 (by omega)
        have Hr := Lib.hid (show r = false by rw [hr2, decide_eq_false c2]; simp)
        clear hr2 c0 c1 c2
        go_enter Try.func17, Try.ntmps17
        go_wp2_with fail
        refine HN.out.mono ?_
        rintro e w1 ⟨rfl, b1⟩
        have HK := Lib.hid (HK0.out.go b1)
        clear C b1 HN
        have C := HK.out.says
        simp only [sayAll, cellsSay, qB, qW, Nat.reduceAdd, and_true, true_and] at C
        go_wp2_with fail
        refine (HS.out _ (HK.out.top 1)).mono ?_
        rintro e w2 ⟨rfl, b2⟩
        have HK2 := Lib.hid (HK.out.go b2)
        clear C b2 HS
        have C := HK2.out.says
        simp only [sayAll, cellsSay, qB, qW, Nat.reduceAdd, and_true, true_and] at C
        go_wp2_with fail
        go_ret
        exact ⟨by rw [Hr.out]; rfl, HK2.out.top 1⟩
      have h_sm : (((sm : Nat) : Int) == 0) = true := beq_iff_eq.2 (by omega)
      have Hr := Lib.hid (show r = true by rw [hr2, decide_eq_true c0, decide_eq_true c1, decide_eq_true c2]; simp)
      clear hr2 c0 c1 c2
      go_enter Try.func17, Try.ntmps17
      go_wp2_with fail
      refine HN.out.mono ?_
      rintro e w1 ⟨rfl, b1⟩
      have HK := Lib.hid (HK0.out.go b1)
      clear C b1 HN
      have C := HK.out.says
      simp only [sayAll, cellsSay, qB, qW, Nat.reduceAdd, and_true, true_and] at C
      go_wp2_with fail
      refine (HS.out _ (HK.out.top 1)).mono ?_
      rintro e w2 ⟨rfl, b2⟩
      have HK2 := Lib.hid (HK.out.go b2)
      clear C b2 HS
      have C := HK2.out.says
      simp only [sayAll, cellsSay, qB, qW, Nat.reduceAdd, and_true, true_and] at C
      go_wp2_with fail
      go_ret
      exact ⟨by rw [Hr.out]; rfl, HK2.out.top 1⟩
  have Hr := Lib.hid (show r = false by rw [hr, if_neg k1, if_neg k4, if_neg (fun e => k2 (.inl e)), if_neg (fun e => k2 (.inr e))])
  have h1 : (((kd : Nat) : Int) == 1) = false := beq_eq_false_iff_ne.2 (by omega)
  have h2 : (((kd : Nat) : Int) == 2) = false := beq_eq_false_iff_ne.2 (by omega)
  have h3 : (((kd : Nat) : Int) == 3) = false := beq_eq_false_iff_ne.2 (by omega)
  have h4 : (((kd : Nat) : Int) == 4) = false := beq_eq_false_iff_ne.2 (by omega)
  have h5 : (((kd : Nat) : Int) == 5) = false := beq_eq_false_iff_ne.2 (by omega)
  clear hr k1 k2 k4
  go_enter Try.func17, Try.ntmps17
  go_wp2_with fail
  refine HN.out.mono ?_
  rintro e w1 ⟨rfl, b1⟩
  have HK := Lib.hid (HK0.out.go b1)
  clear C b1 HN
  have C := HK.out.says
  simp only [sayAll, cellsSay, qB, qW, Nat.reduceAdd, and_true, true_and] at C
  go_wp2_with fail
  go_ret
  exact ⟨by rw [Hr.out]; rfl, HK.out.top 1⟩

end Go.Proofs.Ytpedobpbpomkaaa
