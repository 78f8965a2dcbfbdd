/- Joined: Fr2, App, Fr3. -/
import Derived.Test.YtpedobpbpomkaaaQ4
import Derived.Test.YtpedobpbpomkaaaQ3
import Derived.Test.YtpedobpbpomkaaaQ1
import Derived.BigQuiet
import Derived.Deep.QuietTactic
set_option linter.unusedSimpArgs false
set_option linter.unusedVariables false
/- Layer 7: may a frame be, by the document. -/
set_option linter.unusedSimpArgs false
set_option linter.unusedVariables false
namespace Go.Proofs.Ytpedobpbpomkaaa
open Go.RowKit
set_option maxRecDepth 100000

set_option maxHeartbeats 4000000 in
theorem rfmay_any (f : FrD) (A : Option Addr) (c : Nat) (w : World) (hA : Bs w A f.l) (ho : f.ok) (hL : f.l.length ≤ 100000) : Calls Try.prog 17 #[.agg (frC f A c)] w fun e w' => e = .returned (.bool (mayF f)) ∧ Below w.heap.size w w' := by
  have hN := rnone_any f.l f.n A c (w.alloc (.cells (frC f A c) 30))
  have hno := And.intro ho.2.2.2.2.2.2.2.2.1 ho.2.2.2.2.2.2.2.2.2
  have hS := fun (W : World) (hb : Below w.heap.size w W) => refSound_any A c f.l f.n W (hA.below hb) hno (by omega)
  obtain ⟨nn, hnn⟩ : ∃ nn, nn = (decide (f.n = 0) && decide (f.l.length = 0)) := ⟨_, rfl⟩
  obtain ⟨sb, hsb⟩ : ∃ sb, sb = soundB f.l f.n := ⟨_, rfl⟩
  obtain ⟨r, hr⟩ : ∃ r, r = mayF f := ⟨_, rfl⟩
  rw [← hr]
  unfold mayF emptyF bringF noneF at hr
  rw [← hnn, ← hsb] at hr
  rw [← hnn] at hN
  rw [← hsb] at hS
  clear hA ho hno hnn hsb
  obtain ⟨kd, ep, se, fc, fb, fn, cn, cl, sm, l, n⟩ := f
  simp only [frC] at hr hN hS hL ⊢
  have HN := Lib.hid hN
  have HS := Lib.hid hS
  have HK0 := Lib.hid ((Qs.zero w).box #[.int .u8 (kd : Nat), .int .u32 (ep : Nat), .int .u32 (se : Nat), .int .u32 (fc : Nat), .int .u32 (fb : Nat), .int .u32 (fn : Nat), .int .u32 (cn : Nat), .bool cl, .int .u64 (sm : Nat), .slice A l.length c, .int .i64 n] 30)
  have hP := fun w => eqPl0_run fc fb fn w
  clear hN hS
  have C := HK0.out.says
  simp only [sayAll, cellsSay, qB, qW, Nat.reduceAdd, and_true, true_and] at C
  by_cases k1 : kd = 1
  · subst k1
    rw [if_pos rfl] at hr
    by_cases c0 : nn = true
    rotate_left
    · have hn0 : nn = false := by simpa using c0
      subst hn0
      have Hr := Lib.hid (show r = false by rw [hr]; simp)
      clear hr 
      go_enter Try.func17, Try.ntmps17
      go_wp2_with fail
      refine HN.out.mono ?_
      rintro e w1 ⟨rfl, b1⟩
      have HK := Lib.hid (HK0.out.go b1)
      clear C b1 HN
      have C := HK.out.says
      simp only [sayAll, cellsSay, qB, qW, Nat.reduceAdd, and_true, true_and] at C
      go_wp2_with fail
      go_ret
      exact ⟨by rw [Hr.out]; rfl, HK.out.top 1⟩
    have hn0 : nn = true := by exact c0
    subst hn0
    by_cases c1 : se = 0
    rotate_left
    · have h_se : (((se : Nat) : Int) == 0) = false := beq_eq_false_iff_ne.2 (by omega)
      have Hr := Lib.hid (show r = false by rw [hr]; rw [decide_eq_false c1]; simp)
      clear hr c1
      go_enter Try.func17, Try.ntmps17
      go_wp2_with fail
      refine HN.out.mono ?_
      rintro e w1 ⟨rfl, b1⟩
      have HK := Lib.hid (HK0.out.go b1)
      clear C b1 HN
      have C := HK.out.says
      simp only [sayAll, cellsSay, qB, qW, Nat.reduceAdd, and_true, true_and] at C
      go_wp2_with fail
      go_ret
      exact ⟨by rw [Hr.out]; rfl, HK.out.top 1⟩
    have h_se : (((se : Nat) : Int) == 0) = true := beq_iff_eq.2 (by omega)
    by_cases c2 : fc = 0 ∧ fb = 0 ∧ fn = 0
    rotate_left
    · rw [decide_eq_false c2] at hP
      have Hr := Lib.hid (show r = false by rw [hr]; rw [decide_eq_false c2]; simp)
      clear hr c1 c2
      go_enter Try.func17, Try.ntmps17
      go_wp2_with fail
      refine HN.out.mono ?_
      rintro e w1 ⟨rfl, b1⟩
      have HK := Lib.hid (HK0.out.go b1)
      clear C b1 HN
      have C := HK.out.says
      simp only [sayAll, cellsSay, qB, qW, Nat.reduceAdd, and_true, true_and] at C
      go_wp2_with fail
      go_ret
      exact ⟨by rw [Hr.out]; rfl, HK.out.top 1⟩
    rw [decide_eq_true c2] at hP
    by_cases c3 : cn = 0
    rotate_left
    · have h_cn : (((cn : Nat) : Int) == 0) = false := beq_eq_false_iff_ne.2 (by omega)
      have Hr := Lib.hid (show r = false by rw [hr]; rw [decide_eq_false c3]; simp)
      clear hr c1 c2 c3
      go_enter Try.func17, Try.ntmps17
      go_wp2_with fail
      refine HN.out.mono ?_
      rintro e w1 ⟨rfl, b1⟩
      have HK := Lib.hid (HK0.out.go b1)
      clear C b1 HN
      have C := HK.out.says
      simp only [sayAll, cellsSay, qB, qW, Nat.reduceAdd, and_true, true_and] at C
      go_wp2_with fail
      go_ret
      exact ⟨by rw [Hr.out]; rfl, HK.out.top 1⟩
    have h_cn : (((cn : Nat) : Int) == 0) = true := beq_iff_eq.2 (by omega)
    by_cases c4 : cl = false
    rotate_left
    · have hcl : cl = true := by simpa using c4
      have Hr := Lib.hid (show r = false by rw [hr]; rw [hcl]; simp)
      subst hcl
      clear hr c1 c2 c3
      go_enter Try.func17, Try.ntmps17
      go_wp2_with fail
      refine HN.out.mono ?_
      rintro e w1 ⟨rfl, b1⟩
      have HK := Lib.hid (HK0.out.go b1)
      clear C b1 HN
      have C := HK.out.says
      simp only [sayAll, cellsSay, qB, qW, Nat.reduceAdd, and_true, true_and] at C
      go_wp2_with fail
      go_ret
      exact ⟨by rw [Hr.out]; rfl, HK.out.top 1⟩
    have hcl : cl = false := by simpa using c4
    by_cases c5 : sm = 0
    rotate_left
    · have h_sm : (((sm : Nat) : Int) == 0) = false := beq_eq_false_iff_ne.2 (by omega)
      have Hr := Lib.hid (show r = false by rw [hr]; rw [decide_eq_false c5]; simp)
      subst hcl
      clear hr c1 c2 c3 c5
      go_enter Try.func17, Try.ntmps17
      go_wp2_with fail
      refine HN.out.mono ?_
      rintro e w1 ⟨rfl, b1⟩
      have HK := Lib.hid (HK0.out.go b1)
      clear C b1 HN
      have C := HK.out.says
      simp only [sayAll, cellsSay, qB, qW, Nat.reduceAdd, and_true, true_and] at C
      go_wp2_with fail
      go_ret
      exact ⟨by rw [Hr.out]; rfl, HK.out.top 1⟩
    have h_sm : (((sm : Nat) : Int) == 0) = true := beq_iff_eq.2 (by omega)
    have Hr := Lib.hid (show r = true by rw [hr, decide_eq_true c1, decide_eq_true c2, decide_eq_true c3, decide_eq_true c5, hcl]; simp)
    subst hcl
    clear hr c1 c2 c3 c5
    go_enter Try.func17, Try.ntmps17
    go_wp2_with fail
    refine HN.out.mono ?_
    rintro e w1 ⟨rfl, b1⟩
    have HK := Lib.hid (HK0.out.go b1)
    clear C b1 HN
    have C := HK.out.says
    simp only [sayAll, cellsSay, qB, qW, Nat.reduceAdd, and_true, true_and] at C
    go_wp2_with fail
    go_ret
    exact ⟨by rw [Hr.out]; rfl, HK.out.top 1⟩
  by_cases k4 : kd = 4 ∨ kd = 5
  · rw [if_neg k1, if_pos k4] at hr
    clear k1 hP
    by_cases c0 : nn = true
    rotate_left
    · have hn0 : nn = false := by simpa using c0
      subst hn0
      have Hr := Lib.hid (show r = false by rw [hr]; simp)
      clear hr 
      rcases k4 with rfl | rfl
      · go_enter Try.func17, Try.ntmps17
        go_wp2_with fail
        refine HN.out.mono ?_
        rintro e w1 ⟨rfl, b1⟩
        have HK := Lib.hid (HK0.out.go b1)
        clear C b1 HN
        have C := HK.out.says
        simp only [sayAll, cellsSay, qB, qW, Nat.reduceAdd, and_true, true_and] at C
        go_wp2_with fail
        go_ret
        exact ⟨by rw [Hr.out]; rfl, HK.out.top 1⟩
      · go_enter Try.func17, Try.ntmps17
        go_wp2_with fail
        refine HN.out.mono ?_
        rintro e w1 ⟨rfl, b1⟩
        have HK := Lib.hid (HK0.out.go b1)
        clear C b1 HN
        have C := HK.out.says
        simp only [sayAll, cellsSay, qB, qW, Nat.reduceAdd, and_true, true_and] at C
        go_wp2_with fail
        go_ret
        exact ⟨by rw [Hr.out]; rfl, HK.out.top 1⟩
    have hn0 : nn = true := by exact c0
    subst hn0
    by_cases c1 : cn = 0
    rotate_left
    · have h_cn : (((cn : Nat) : Int) == 0) = false := beq_eq_false_iff_ne.2 (by omega)
      have Hr := Lib.hid (show r = false by rw [hr]; rw [decide_eq_false c1]; simp)
      clear hr c1
      rcases k4 with rfl | rfl
      · go_enter Try.func17, Try.ntmps17
        go_wp2_with fail
        refine HN.out.mono ?_
        rintro e w1 ⟨rfl, b1⟩
        have HK := Lib.hid (HK0.out.go b1)
        clear C b1 HN
        have C := HK.out.says
        simp only [sayAll, cellsSay, qB, qW, Nat.reduceAdd, and_true, true_and] at C
        go_wp2_with fail
        go_ret
        exact ⟨by rw [Hr.out]; rfl, HK.out.top 1⟩
      · go_enter Try.func17, Try.ntmps17
        go_wp2_with fail
        refine HN.out.mono ?_
        rintro e w1 ⟨rfl, b1⟩
        have HK := Lib.hid (HK0.out.go b1)
        clear C b1 HN
        have C := HK.out.says
        simp only [sayAll, cellsSay, qB, qW, Nat.reduceAdd, and_true, true_and] at C
        go_wp2_with fail
        go_ret
        exact ⟨by rw [Hr.out]; rfl, HK.out.top 1⟩
    have h_cn : (((cn : Nat) : Int) == 0) = true := beq_iff_eq.2 (by omega)
    by_cases c2 : cl = false
    rotate_left
    · have hcl : cl = true := by simpa using c2
      have Hr := Lib.hid (show r = false by rw [hr]; rw [hcl]; simp)
      subst hcl
      clear hr c1
      rcases k4 with rfl | rfl
      · go_enter Try.func17, Try.ntmps17
        go_wp2_with fail
        refine HN.out.mono ?_
        rintro e w1 ⟨rfl, b1⟩
        have HK := Lib.hid (HK0.out.go b1)
        clear C b1 HN
        have C := HK.out.says
        simp only [sayAll, cellsSay, qB, qW, Nat.reduceAdd, and_true, true_and] at C
        go_wp2_with fail
        go_ret
        exact ⟨by rw [Hr.out]; rfl, HK.out.top 1⟩
      · go_enter Try.func17, Try.ntmps17
        go_wp2_with fail
        refine HN.out.mono ?_
        rintro e w1 ⟨rfl, b1⟩
        have HK := Lib.hid (HK0.out.go b1)
        clear C b1 HN
        have C := HK.out.says
        simp only [sayAll, cellsSay, qB, qW, Nat.reduceAdd, and_true, true_and] at C
        go_wp2_with fail
        go_ret
        exact ⟨by rw [Hr.out]; rfl, HK.out.top 1⟩
    have hcl : cl = false := by simpa using c2
    have Hr := Lib.hid (show r = true by rw [hr, decide_eq_true c1, hcl]; simp)
    subst hcl
    clear hr c1
    rcases k4 with rfl | rfl
    · go_enter Try.func17, Try.ntmps17
      go_wp2_with fail
      refine HN.out.mono ?_
      rintro e w1 ⟨rfl, b1⟩
      have HK := Lib.hid (HK0.out.go b1)
      clear C b1 HN
      have C := HK.out.says
      simp only [sayAll, cellsSay, qB, qW, Nat.reduceAdd, and_true, true_and] at C
      go_wp2_with fail
      go_ret
      exact ⟨by rw [Hr.out]; rfl, HK.out.top 1⟩
    · go_enter Try.func17, Try.ntmps17
      go_wp2_with fail
      refine HN.out.mono ?_
      rintro e w1 ⟨rfl, b1⟩
      have HK := Lib.hid (HK0.out.go b1)
      clear C b1 HN
      have C := HK.out.says
      simp only [sayAll, cellsSay, qB, qW, Nat.reduceAdd, and_true, true_and] at C
      go_wp2_with fail
      go_ret
      exact ⟨by rw [Hr.out]; rfl, HK.out.top 1⟩
  by_cases k2 : kd = 2 ∨ kd = 3
  · have hr2 : r = (sb && decide (0 < n) && decide (fn < cn) && decide (l.length ≤ 4052) && (decide (kd = 2) || (decide (fb = 0) && decide (fn = 0) && decide (sm = 0)))) := by
      rw [hr, if_neg k1, if_neg k4]
      rcases k2 with rfl | rfl
      · rw [if_pos rfl]; simp
      · rw [if_neg (by decide), if_pos rfl]; simp [Bool.and_comm, Bool.and_assoc, Bool.and_left_comm]
    clear hr k1 k4 hP
    by_cases c0 : sb = true
    rotate_left
    · have hs0 : sb = false := by simpa using c0
      subst hs0
      have Hr := Lib.hid (show r = false by rw [hr2]; simp)
      clear hr2 
      rcases k2 with rfl | rfl
      · go_enter Try.func17, Try.ntmps17
        go_wp2_with fail
        refine HN.out.mono ?_
        rintro e w1 ⟨rfl, b1⟩
        have HK := Lib.hid (HK0.out.go b1)
        clear C b1 HN
        have C := HK.out.says
        simp only [sayAll, cellsSay, qB, qW, Nat.reduceAdd, and_true, true_and] at C
        go_wp2_with fail
        refine (HS.out _ (HK.out.top 1)).mono ?_
        rintro e w2 ⟨rfl, b2⟩
        have HK2 := Lib.hid (HK.out.go b2)
        clear C b2 HS
        have C := HK2.out.says
        simp only [sayAll, cellsSay, qB, qW, Nat.reduceAdd, and_true, true_and] at C
        go_wp2_with fail
        go_ret
        exact ⟨by rw [Hr.out]; rfl, HK2.out.top 1⟩
      · go_enter Try.func17, Try.ntmps17
        go_wp2_with fail
        refine HN.out.mono ?_
        rintro e w1 ⟨rfl, b1⟩
        have HK := Lib.hid (HK0.out.go b1)
        clear C b1 HN
        have C := HK.out.says
        simp only [sayAll, cellsSay, qB, qW, Nat.reduceAdd, and_true, true_and] at C
        go_wp2_with fail
        refine (HS.out _ (HK.out.top 1)).mono ?_
        rintro e w2 ⟨rfl, b2⟩
        have HK2 := Lib.hid (HK.out.go b2)
        clear C b2 HS
        have C := HK2.out.says
        simp only [sayAll, cellsSay, qB, qW, Nat.reduceAdd, and_true, true_and] at C
        go_wp2_with fail
        go_ret
        exact ⟨by rw [Hr.out]; rfl, HK2.out.top 1⟩
    have hs0 : sb = true := by exact c0
    subst hs0
    by_cases c1 : 0 < n
    rotate_left
    · have h_n : decide (n < 1) = true := decide_eq_true (by omega)
      have Hr := Lib.hid (show r = false by rw [hr2]; rw [decide_eq_false c1]; simp)
      clear hr2 c1
      rcases k2 with rfl | rfl
      · go_enter Try.func17, Try.ntmps17
        go_wp2_with fail
        refine HN.out.mono ?_
        rintro e w1 ⟨rfl, b1⟩
        have HK := Lib.hid (HK0.out.go b1)
        clear C b1 HN
        have C := HK.out.says
        simp only [sayAll, cellsSay, qB, qW, Nat.reduceAdd, and_true, true_and] at C
        go_wp2_with fail
        refine (HS.out _ (HK.out.top 1)).mono ?_
        rintro e w2 ⟨rfl, b2⟩
        have HK2 := Lib.hid (HK.out.go b2)
        clear C b2 HS
        have C := HK2.out.says
        simp only [sayAll, cellsSay, qB, qW, Nat.reduceAdd, and_true, true_and] at C
        go_wp2_with fail
        go_ret
        exact ⟨by rw [Hr.out]; rfl, HK2.out.top 1⟩
      · go_enter Try.func17, Try.ntmps17
        go_wp2_with fail
        refine HN.out.mono ?_
        rintro e w1 ⟨rfl, b1⟩
        have HK := Lib.hid (HK0.out.go b1)
        clear C b1 HN
        have C := HK.out.says
        simp only [sayAll, cellsSay, qB, qW, Nat.reduceAdd, and_true, true_and] at C
        go_wp2_with fail
        refine (HS.out _ (HK.out.top 1)).mono ?_
        rintro e w2 ⟨rfl, b2⟩
        have HK2 := Lib.hid (HK.out.go b2)
        clear C b2 HS
        have C := HK2.out.says
        simp only [sayAll, cellsSay, qB, qW, Nat.reduceAdd, and_true, true_and] at C
        go_wp2_with fail
        go_ret
        exact ⟨by rw [Hr.out]; rfl, HK2.out.top 1⟩
    have h_n : decide (n < 1) = false := decide_eq_false (by omega)
    by_cases c2 : fn < cn
    rotate_left
    · have h_f : decide (cn ≤ fn) = true := decide_eq_true (by omega)
      have Hr := Lib.hid (show r = false by rw [hr2]; rw [decide_eq_false c2]; simp)
      clear hr2 c1 c2
      rcases k2 with rfl | rfl
      · go_enter Try.func17, Try.ntmps17
        go_wp2_with fail
        refine HN.out.mono ?_
        rintro e w1 ⟨rfl, b1⟩
        have HK := Lib.hid (HK0.out.go b1)
        clear C b1 HN
        have C := HK.out.says
        simp only [sayAll, cellsSay, qB, qW, Nat.reduceAdd, and_true, true_and] at C
        go_wp2_with fail
        refine (HS.out _ (HK.out.top 1)).mono ?_
        rintro e w2 ⟨rfl, b2⟩
        have HK2 := Lib.hid (HK.out.go b2)
        clear C b2 HS
        have C := HK2.out.says
        simp only [sayAll, cellsSay, qB, qW, Nat.reduceAdd, and_true, true_and] at C
        go_wp2_with fail
        go_ret
        exact ⟨by rw [Hr.out]; rfl, HK2.out.top 1⟩
      · go_enter Try.func17, Try.ntmps17
        go_wp2_with fail
        refine HN.out.mono ?_
        rintro e w1 ⟨rfl, b1⟩
        have HK := Lib.hid (HK0.out.go b1)
        clear C b1 HN
        have C := HK.out.says
        simp only [sayAll, cellsSay, qB, qW, Nat.reduceAdd, and_true, true_and] at C
        go_wp2_with fail
        refine (HS.out _ (HK.out.top 1)).mono ?_
        rintro e w2 ⟨rfl, b2⟩
        have HK2 := Lib.hid (HK.out.go b2)
        clear C b2 HS
        have C := HK2.out.says
        simp only [sayAll, cellsSay, qB, qW, Nat.reduceAdd, and_true, true_and] at C
        go_wp2_with fail
        go_ret
        exact ⟨by rw [Hr.out]; rfl, HK2.out.top 1⟩
    have h_f : decide (cn ≤ fn) = false := decide_eq_false (by omega)
    by_cases c3 : l.length ≤ 4052
    rotate_left
    · have h_l : decide ((4052 : Int) < (l.length : Int)) = true := decide_eq_true (by omega)
      have Hr := Lib.hid (show r = false by rw [hr2]; rw [decide_eq_false c3]; simp)
      clear hr2 c1 c2 c3
      rcases k2 with rfl | rfl
      · go_enter Try.func17, Try.ntmps17
        go_wp2_with fail
        refine HN.out.mono ?_
        rintro e w1 ⟨rfl, b1⟩
        have HK := Lib.hid (HK0.out.go b1)
        clear C b1 HN
        have C := HK.out.says
        simp only [sayAll, cellsSay, qB, qW, Nat.reduceAdd, and_true, true_and] at C
        go_wp2_with fail
        refine (HS.out _ (HK.out.top 1)).mono ?_
        rintro e w2 ⟨rfl, b2⟩
        have HK2 := Lib.hid (HK.out.go b2)
        clear C b2 HS
        have C := HK2.out.says
        simp only [sayAll, cellsSay, qB, qW, Nat.reduceAdd, and_true, true_and] at C
        go_wp2_with fail
        go_ret
        exact ⟨by rw [Hr.out]; rfl, HK2.out.top 1⟩
      · go_enter Try.func17, Try.ntmps17
        go_wp2_with fail
        refine HN.out.mono ?_
        rintro e w1 ⟨rfl, b1⟩
        have HK := Lib.hid (HK0.out.go b1)
        clear C b1 HN
        have C := HK.out.says
        simp only [sayAll, cellsSay, qB, qW, Nat.reduceAdd, and_true, true_and] at C
        go_wp2_with fail
        refine (HS.out _ (HK.out.top 1)).mono ?_
        rintro e w2 ⟨rfl, b2⟩
        have HK2 := Lib.hid (HK.out.go b2)
        clear C b2 HS
        have C := HK2.out.says
        simp only [sayAll, cellsSay, qB, qW, Nat.reduceAdd, and_true, true_and] at C
        go_wp2_with fail
        go_ret
        exact ⟨by rw [Hr.out]; rfl, HK2.out.top 1⟩
    have h_l : decide ((4052 : Int) < (l.length : Int)) = false := decide_eq_false (by omega)
    rw [decide_eq_true c1, decide_eq_true c2, decide_eq_true c3] at hr2
    clear c1 c2 c3
    rcases k2 with rfl | rfl
    · have Hr := Lib.hid (show r = true by rw [hr2]; simp)
      clear hr2
      go_enter Try.func17, Try.ntmps17
      go_wp2_with fail
      refine HN.out.mono ?_
      rintro e w1 ⟨rfl, b1⟩
      have HK := Lib.hid (HK0.out.go b1)
      clear C b1 HN
      have C := HK.out.says
      simp only [sayAll, cellsSay, qB, qW, Nat.reduceAdd, and_true, true_and] at C
      go_wp2_with fail
      refine (HS.out _ (HK.out.top 1)).mono ?_
      rintro e w2 ⟨rfl, b2⟩
      have HK2 := Lib.hid (HK.out.go b2)
      clear C b2 HS
      have C := HK2.out.says
      simp only [sayAll, cellsSay, qB, qW, Nat.reduceAdd, and_true, true_and] at C
      go_wp2_with fail
      go_ret
      exact ⟨by rw [Hr.out]; rfl, HK2.out.top 1⟩
    · by_cases c0 : fb = 0
      rotate_left
      · have h_fb : (((fb : Nat) : Int) == 0) = false := beq_eq_false_iff_ne.2 (by omega)
        have Hr := Lib.hid (show r = false by rw [hr2, decide_eq_false c0]; simp)
        clear hr2 c0
        go_enter Try.func17, Try.ntmps17
        go_wp2_with fail
        refine HN.out.mono ?_
        rintro e w1 ⟨rfl, b1⟩
        have HK := Lib.hid (HK0.out.go b1)
        clear C b1 HN
        have C := HK.out.says
        simp only [sayAll, cellsSay, qB, qW, Nat.reduceAdd, and_true, true_and] at C
        go_wp2_with fail
        refine (HS.out _ (HK.out.top 1)).mono ?_
        rintro e w2 ⟨rfl, b2⟩
        have HK2 := Lib.hid (HK.out.go b2)
        clear C b2 HS
        have C := HK2.out.says
        simp only [sayAll, cellsSay, qB, qW, Nat.reduceAdd, and_true, true_and] at C
        go_wp2_with fail
        go_ret
        exact ⟨by rw [Hr.out]; rfl, HK2.out.top 1⟩
      have h_fb : (((fb : Nat) : Int) == 0) = true := beq_iff_eq.2 (by omega)
      by_cases c1 : fn = 0
      rotate_left
      · have h_fn : (((fn : Nat) : Int) == 0) = false := beq_eq_false_iff_ne.2 (by omega)
        have Hr := Lib.hid (show r = false by rw [hr2, decide_eq_false c1]; simp)
        clear hr2 c0 c1
        go_enter Try.func17, Try.ntmps17
        go_wp2_with fail
        refine HN.out.mono ?_
        rintro e w1 ⟨rfl, b1⟩
        have HK := Lib.hid (HK0.out.go b1)
        clear C b1 HN
        have C := HK.out.says
        simp only [sayAll, cellsSay, qB, qW, Nat.reduceAdd, and_true, true_and] at C
        go_wp2_with fail
        refine (HS.out _ (HK.out.top 1)).mono ?_
        rintro e w2 ⟨rfl, b2⟩
        have HK2 := Lib.hid (HK.out.go b2)
        clear C b2 HS
        have C := HK2.out.says
        simp only [sayAll, cellsSay, qB, qW, Nat.reduceAdd, and_true, true_and] at C
        go_wp2_with fail
        go_ret
        exact ⟨by rw [Hr.out]; rfl, HK2.out.top 1⟩
      have h_fn : (((fn : Nat) : Int) == 0) = true := beq_iff_eq.2 (by omega)
      by_cases c2 : sm = 0
      rotate_left
      · have h_sm : (((sm : Nat) : Int) == 0) = false := beq_eq_false_iff_ne.2 (by omega)
        have Hr := Lib.hid (show r = false by rw [hr2, decide_eq_false c2]; simp)
        clear hr2 c0 c1 c2
        go_enter Try.func17, Try.ntmps17
        go_wp2_with fail
        refine HN.out.mono ?_
        rintro e w1 ⟨rfl, b1⟩
        have HK := Lib.hid (HK0.out.go b1)
        clear C b1 HN
        have C := HK.out.says
        simp only [sayAll, cellsSay, qB, qW, Nat.reduceAdd, and_true, true_and] at C
        go_wp2_with fail
        refine (HS.out _ (HK.out.top 1)).mono ?_
        rintro e w2 ⟨rfl, b2⟩
        have HK2 := Lib.hid (HK.out.go b2)
        clear C b2 HS
        have C := HK2.out.says
        simp only [sayAll, cellsSay, qB, qW, Nat.reduceAdd, and_true, true_and] at C
        go_wp2_with fail
        go_ret
        exact ⟨by rw [Hr.out]; rfl, HK2.out.top 1⟩
      have h_sm : (((sm : Nat) : Int) == 0) = true := beq_iff_eq.2 (by omega)
      have Hr := Lib.hid (show r = true by rw [hr2, decide_eq_true c0, decide_eq_true c1, decide_eq_true c2]; simp)
      clear hr2 c0 c1 c2
      go_enter Try.func17, Try.ntmps17
      go_wp2_with fail
      refine HN.out.mono ?_
      rintro e w1 ⟨rfl, b1⟩
      have HK := Lib.hid (HK0.out.go b1)
      clear C b1 HN
      have C := HK.out.says
      simp only [sayAll, cellsSay, qB, qW, Nat.reduceAdd, and_true, true_and] at C
      go_wp2_with fail
      refine (HS.out _ (HK.out.top 1)).mono ?_
      rintro e w2 ⟨rfl, b2⟩
      have HK2 := Lib.hid (HK.out.go b2)
      clear C b2 HS
      have C := HK2.out.says
      simp only [sayAll, cellsSay, qB, qW, Nat.reduceAdd, and_true, true_and] at C
      go_wp2_with fail
      go_ret
      exact ⟨by rw [Hr.out]; rfl, HK2.out.top 1⟩
  have Hr := Lib.hid (show r = false by rw [hr, if_neg k1, if_neg k4, if_neg (fun e => k2 (.inl e)), if_neg (fun e => k2 (.inr e))])
  have h1 : (((kd : Nat) : Int) == 1) = false := beq_eq_false_iff_ne.2 (by omega)
  have h2 : (((kd : Nat) : Int) == 2) = false := beq_eq_false_iff_ne.2 (by omega)
  have h3 : (((kd : Nat) : Int) == 3) = false := beq_eq_false_iff_ne.2 (by omega)
  have h4 : (((kd : Nat) : Int) == 4) = false := beq_eq_false_iff_ne.2 (by omega)
  have h5 : (((kd : Nat) : Int) == 5) = false := beq_eq_false_iff_ne.2 (by omega)
  clear hr k1 k2 k4
  go_enter Try.func17, Try.ntmps17
  go_wp2_with fail
  refine HN.out.mono ?_
  rintro e w1 ⟨rfl, b1⟩
  have HK := Lib.hid (HK0.out.go b1)
  clear C b1 HN
  have C := HK.out.says
  simp only [sayAll, cellsSay, qB, qW, Nat.reduceAdd, and_true, true_and] at C
  go_wp2_with fail
  go_ret
  exact ⟨by rw [Hr.out]; rfl, HK.out.top 1⟩

end Go.Proofs.Ytpedobpbpomkaaa

/- 'append(out, x...)' of bytes, x nil or not. -/
namespace Go.Proofs.Ytpedobpbpomkaaa
open Go.RowKit

theorem run_app_nil {P : Program} (w : World) (base : Nat) (t ty e : TypeId) (i : TypeInfo) (size : Nat) (ht : P.underlying t = some (.slice e)) (hi : P.info? e = some i)
    (v : Value) (n : Nat) (xs : List Value) (hown : w.ownsRow base e size v n xs) (c : Nat) : (Builtin.append_ #[t, t] ty #[v, .slice none 0 c]).run P w = .ok v w := by
  rcases hown.2 with ⟨rfl, rfl⟩ | ⟨g, cap, cur, rfl, _, _, hnc, _⟩
  · simp [Builtin.append_, run_underlying ht, sizeOf, typeInfo, hi, Builtin.lenOf, Builtin.firstCells]
  · simp [Builtin.append_, run_underlying ht, sizeOf, typeInfo, hi, Builtin.lenOf, Builtin.firstCells, hnc, storeCells]

set_option maxRecDepth 100000 in
/-- 'append(out, x...)' -/
theorem appAll (w : World) {ops : Array Oper} {rest : List Oper} {o : Oper} {a : Act} {Q : Exit → Act → World → Prop} (hgd : o.guard = none) (s x : Operand)
    (ho : o.op = .call { callee := .builtin .append, args := #[s, x], argTypes := #[26, 26] })
    (base : Nat) (v : Value) (L : List UInt8) (hs : a.eval s = v) (hown : OwnB w base v L) (A : Option Addr) (c : Nat) (l : List UInt8)
    (hx : a.eval x = .slice A l.length c) (hb : Bs w A l) (hlen : L.length + l.length ≤ 140737488355328) (hbase : base ≤ w.heap.size)
    (h : ∀ A' c' w', OwnB w' base (.slice A' (L.length + l.length) c') (L ++ l) → Below base w w' → wpList Try.prog ops Q rest (a.put o.dst (.slice A' (L.length + l.length) c')) w') : wpList Try.prog ops Q (o :: rest) a w := by
  obtain ⟨i, hi, hz, hsz, hby⟩ := info_parts Try.info_u8
  rcases A with _ | ad
  · have h0 : l = [] := by
      cases l with
      | nil => rfl
      | cons b l => obtain ⟨p, o, hA, _⟩ := hb 0 b rfl; cases hA
    subst h0
    obtain ⟨A', c', rfl, _⟩ := hown.isB
    refine wpList_plain hgd fun K hK => ?_
    have hrun := run_app_nil (P := Try.prog) w base 26 o.type 5 i 1 Try.underlying26 hi _ _ _ hown c
    unfold Oper.wp
    simp [execOp, ho, resolve, invoke, builtin, hs, hx, hrun, Result.andThen]
    exact hK _ _ (h A' c' w (by simpa using hown) (Below.refl _ _))
  · refine wpList_append_own (P := Try.prog) w hgd s x 26 ho base 5 i (.int .u8 0) 1 1 Try.underlying26 hi hz hsz hby rfl (by decide) v L.length (L.map bv) hs hown ad l.length c (l.map bv) hx (by simp) ?_ ?_ (by unfold maxLen; omega) (by omega) hbase fun v' w' h2 h3 _ => ?_
    · intro j u hj
      rw [List.getElem?_map] at hj
      obtain ⟨b, hjb, rfl⟩ := Option.map_eq_some_iff.1 hj
      obtain ⟨p, o, hA, hc⟩ := hb j b hjb
      injection hA with e
      subst e
      unfold Addr.add
      split
      · rename_i h0; subst h0; simpa using hc
      · exact hc
    · intro u hu
      obtain ⟨b, _, rfl⟩ := List.mem_map.1 hu
      rfl
    · have h4 : OwnB w' base v' (L ++ l) := by unfold OwnB; rw [List.length_append, List.map_append]; exact h2
      obtain ⟨A', c', hv, _⟩ := h4.isB
      rw [List.length_append] at hv
      subst hv
      exact h A' c' w' h4 (own_grown hown h3 hbase)

end Go.Proofs.Ytpedobpbpomkaaa

/- Layer 7: numbers behind bytes, numbers out of bytes: the document's. -/
set_option linter.unusedSimpArgs false
set_option linter.unusedVariables false
namespace Go.Proofs.Ytpedobpbpomkaaa
open Go.RowKit
set_option maxRecDepth 100000

theorem be_shift (v i : Nat) : (v : Int) / 2 ^ (8 * i) = ((v / 256 ^ i : Nat) : Int) := by
  rw [show (256 : Nat) ^ i = 2 ^ (8 * i) from by rw [Nat.pow_mul]]
  norm_cast
theorem u8_byte (x : Nat) : IntKind.u8.wrap (x : Int) = ((UInt8.ofNat (x % 256)).toNat : Int) := by
  rw [IntKind.wrap_u8]
  have : (UInt8.ofNat (x % 256)).toNat = x % 256 := by simp
  rw [this]; norm_cast
theorem be_take {wd v j : Nat} (h : j < wd) : (be wd v).take (j + 1) = (be wd v).take j ++ [UInt8.ofNat (v / 256 ^ (wd - 1 - j) % 256)] := by
  have hg := be_get v wd j h
  obtain ⟨hk, he⟩ := List.getElem?_eq_some_iff.1 hg
  rw [List.take_succ_eq_append_getElem hk, he]

set_option maxHeartbeats 1000000 in
theorem rput7_any (v wd : Nat) (A : Option Addr) (c : Nat) (L : List UInt8) (base : Nat) (w : World) (hown : OwnB w base (.slice A L.length c) L) (hwd : wd ≤ 8) (hv : v < 18446744073709551616) (hL : L.length ≤ 100000) (hb : base ≤ w.heap.size) :
    Calls Try.prog 33 #[.slice A L.length c, .int .u64 (v : Nat), .int .i64 (wd : Nat)] w fun e w' => ∃ A' c' N, e = .returned (.slice A' N c') ∧ Hid (N = L.length + wd ∧ OwnB w' base (.slice A' N c') (L ++ be wd v) ∧ Below base w w') := by
  have HO := Lib.hid hown
  clear hown
  have hw0 : IntKind.i64.wrap ((wd : Int) - 1) = (wd : Int) - 1 := by rw [IntKind.wrap_i64]; omega
  go_enter Try.func33, Try.ntmps33
  go_wp2_with fail
  go_loopw [0, 7] (fun s0 s7 wr => ∃ (i : Int) (j N : Nat) (M : List UInt8) (A2 : Option Addr) (c2 : Nat), j ≤ wd ∧ Hid (i = (wd : Int) - 1 - j) ∧ s7 = .int .i64 i ∧ s0 = .slice A2 N c2 ∧ Hid (N = M.length) ∧ Hid (M = L ++ (be wd v).take j) ∧ Hid (OwnB wr base (.slice A2 N c2) M) ∧ Hid (Below base w wr))
    (fun _ s7 _ => (intOf s7 + 1).toNat)
  case atStart => exact ⟨(wd : Int) - 1, 0, L.length, L, A, c, Nat.zero_le _, Lib.hid (by omega), rfl, rfl, Lib.hid rfl, Lib.hid (by simp), HO, Lib.hid (Below.refl _ _)⟩
  case round =>
    obtain ⟨i, j, N, M, A2, c2, hj, Hi, rfl, rfl, HN, HM, HOr, HB⟩ := hrel
    have hsz : base ≤ wr.heap.size := Nat.le_trans hb HB.out.size
    have hMl : M.length ≤ 100008 := by rw [HM.out, List.length_append, List.length_take, be_len]; omega
    have hNl : N ≤ 100008 := by rw [HN.out]; exact hMl
    by_cases hlt : j < wd
    · obtain ⟨k, hk⟩ : ∃ k, k = wd - 1 - j := ⟨_, rfl⟩
      obtain rfl : i = (k : Int) := by have := Hi.out; omega
      have hst := be_take (v := v) hlt
      rw [← hk] at hst
      obtain ⟨s, hs⟩ : ∃ s : Nat, s = 8 * k := ⟨_, rfl⟩
      have f1 : IntKind.i64.wrap (8 * (k : Int)) = (s : Int) := by rw [IntKind.wrap_i64]; omega
      have f2 : IntKind.u64.wrap (s : Int) = (s : Int) := by rw [IntKind.wrap_u64]; omega
      obtain ⟨q, hq⟩ : ∃ q, q = v / 256 ^ k := ⟨_, rfl⟩
      have f3 : (v : Int) / 2 ^ s = (q : Int) := by rw [hs, be_shift, hq]
      obtain ⟨b, hb2⟩ : ∃ b, b = UInt8.ofNat (q % 256) := ⟨_, rfl⟩
      have f4 : IntKind.u8.wrap (q : Int) = (b.toNat : Int) := by rw [u8_byte, hb2]
      rw [← hq, ← hb2] at hst
      have HM2 := Lib.hid (show M ++ [b] = L ++ (be wd v).take (j + 1) by rw [hst, HM.out, List.append_assoc])
      have hw1 : IntKind.i64.wrap ((k : Int) - 1) = (k : Int) - 1 := by rw [IntKind.wrap_i64]; omega
      have hs64 : (s : Int) < 64 := by omega
      have hs64' : s < 64 := by omega
      have Hk := Lib.hid hk
      have hMN := HN.out
      subst hMN
      clear hst hs hq hb2 hk
      go_wp2_with (at_builtin; go_must (refine appB _ rfl (.tmp 14) (.tmp 21) rfl base _ M rfl (HOr.out.alloc _) wr.heap.size b rfl ((Blk.new wr _ _).cell 0) (by omega) (by simp; omega) ?_); intro g5 c5 w5 hown5 hb5)
      go_roundw
      case measure => simp [intOf] <;> omega
      case rel => exact ⟨(k : Int) - 1, j + 1, M.length + 1, M ++ [b], some ⟨g5, 0, none⟩, c5, by omega, Lib.hid (by have := Hk.out; omega), rfl, rfl, Lib.hid (by simp), HM2, Lib.hid hown5, Lib.hid ((HB.out.trans ((Below.refl base wr).alloc hsz _)).trans hb5)⟩
    · obtain rfl : j = wd := by omega
      obtain rfl : i = -1 := by have := Hi.out; omega
      have HMf : Hid (N = L.length + j ∧ M = L ++ be j v) := Lib.hid (by
        have h1 := HM.out
        rw [List.take_of_length_le (by rw [be_len]; omega)] at h1
        exact ⟨by rw [HN.out, h1, List.length_append, be_len], h1⟩)
      go_wp2_with fail
      go_ret
      exact ⟨A2, c2, N, rfl, Lib.hid ⟨HMf.out.1, by rw [← HMf.out.2]; exact HOr.out, HB.out⟩⟩

set_option maxHeartbeats 1000000 in
theorem rnumber_any (at_ wd : Nat) (A : Option Addr) (c : Nat) (l : List UInt8) (w : World) (hA : Bs w A l) (hwd : wd ≤ 8) (hl : at_ + wd ≤ l.length) (hL : l.length ≤ 100000) :
    Calls Try.prog 42 #[.slice A l.length c, .int .i64 (at_ : Nat), .int .i64 (wd : Nat)] w fun e w' => e = .returned (.int .u64 (num (part l at_ wd) : Nat)) ∧ w' = w := by
  obtain ⟨R, hR⟩ : ∃ R, R = num (part l at_ wd) := ⟨_, rfl⟩
  rw [← hR]
  have HR := Lib.hid hR
  have HA := Lib.hid hA
  clear hA hR
  have hwe : IntKind.i64.wrap ((at_ : Int) + (wd : Int)) = (at_ : Int) + wd := by rw [IntKind.wrap_i64]; omega
  go_enter Try.func42, Try.ntmps42
  go_wp2_with fail
  go_loopw [7, 8] (fun s7 s8 wr => ∃ (i k n : Nat), k ≤ wd ∧ Hid (i = at_ + k) ∧ s8 = .int .i64 i ∧ s7 = .int .u64 n ∧ Hid (n = num ((part l at_ wd).take k)) ∧ w = wr)
    (fun _ s8 _ => (at_ + wd) - (intOf s8).toNat)
  case atStart => exact ⟨at_, 0, 0, Nat.zero_le _, Lib.hid rfl, rfl, rfl, Lib.hid rfl, rfl⟩
  case round =>
    obtain ⟨i, k, n, hk, Hi, rfl, rfl, HN, rfl⟩ := hrel
    have hi := Hi.out
    by_cases hlt : k < wd
    · have hil : i < l.length := by omega
      have hil2 : (i : Int) < l.length := by omega
      have hib : decide ((i : Int) < (at_ : Int) + wd) = true := decide_eq_true (by omega)
      obtain ⟨p, o, rfl, hc⟩ := HA.out i l[i] (List.getElem?_eq_getElem hil)
      have hpk : (part l at_ wd)[k]? = some l[i] := by
        unfold part
        rw [List.getElem?_take, if_pos hlt, List.getElem?_drop, ← hi]
        exact List.getElem?_eq_getElem hil
      have hst := num_snoc hpk
      rw [← HN.out] at hst
      have hlt8 := num_lt ((part l at_ wd).take (k + 1))
      obtain ⟨x, hx⟩ : ∃ x, x = l[i] := ⟨_, rfl⟩
      rw [← hx] at hc hst
      obtain ⟨n', hn'⟩ : ∃ n', n' = num ((part l at_ wd).take (k + 1)) := ⟨_, rfl⟩
      rw [← hn'] at hst hlt8
      have hk8 : ((part l at_ wd).take (k + 1)).length ≤ 8 := by rw [List.length_take, part_len hl]; omega
      have hb64 : n' < 18446744073709551616 := Nat.lt_of_lt_of_le hlt8 (Nat.le_trans (Nat.pow_le_pow_right (by decide) hk8) (by decide))
      have hxl := x.toNat_lt
      have f0 : IntKind.u64.wrap ((x.toNat : Nat) : Int) = (x.toNat : Int) := by rw [IntKind.wrap_u64]; omega
      obtain ⟨m, hm⟩ : ∃ m, m = 256 * n := ⟨_, rfl⟩
      have f1 : IntKind.u64.wrap (256 * (n : Int)) = (m : Int) := by rw [IntKind.wrap_u64]; omega
      have f2 : IntKind.u64.wrap ((m : Int) + (x.toNat : Int)) = (n' : Int) := by rw [IntKind.wrap_u64]; omega
      have HN' := Lib.hid hn'
      unfold bv at hc
      clear hpk hst hlt8 hx hn' hb64 hm hi hk8
      go_wp2_with fail
      go_roundw
      case measure => have := Hi.out; simp [intOf]; omega
      case rel => exact ⟨i + 1, k + 1, n', by omega, Lib.hid (by have := Hi.out; omega), by go_num, rfl, HN', by first | rfl | trivial⟩
    · obtain rfl : k = wd := by omega
      have hib : decide ((i : Int) < (at_ : Int) + k) = false := decide_eq_false (by omega)
      have hn := HN.out
      rw [List.take_of_length_le (by rw [part_len hl]; exact Nat.le_refl _), ← HR.out] at hn
      have HNR := Lib.hid hn
      clear hn hi
      go_wp2_with fail
      go_ret
      exact ⟨by rw [← HNR.out]; rfl, rfl⟩

end Go.Proofs.Ytpedobpbpomkaaa
