/- Layer 7: may a frame be, by the program. -/
import Derived.Test.YtpedobpbpomkaaaMathF
import Derived.Test.YtpedobpbpomkaaaBit1
import Derived.Test.YtpedobpbpomkaaaRef4
import Derived.Test.YtpedobpbpomkaaaKq
import Derived.Laws.StructEq
import Derived.BigQuiet
import Derived.Deep.QuietTactic
set_option linter.unusedSimpArgs false
set_option linter.unusedVariables false
namespace Go.Proofs.Ytpedobpbpomkaaa
open Go.RowKit
set_option maxRecDepth 100000

/-- the cells of a frame -/
def frC (f : FrD) (A : Option Addr) (c : Nat) : Array Value := #[.int .u8 (f.kd : Nat), .int .u32 (f.ep : Nat), .int .u32 (f.se : Nat), .int .u32 (f.fc : Nat), .int .u32 (f.fb : Nat), .int .u32 (f.fn : Nat), .int .u32 (f.cn : Nat), .bool f.cl, .int .u64 (f.sm : Nat), .slice A f.l.length c, .int .i64 f.n]
theorem eqInPl_run (a b : Nat × Nat × Nat) (w : World) : (Op.equalIn 10000 24 (.agg #[.int .u32 (a.1 : Nat), .int .u32 (a.2.1 : Nat), .int .u32 (a.2.2 : Nat)]) (.agg #[.int .u32 (b.1 : Nat), .int .u32 (b.2.1 : Nat), .int .u32 (b.2.2 : Nat)])).run Try.prog w = .ok (decide (a = b)) w := by
  have u1 := Try.underlying22
  have hS : Try.prog.underlying 24 = some (.struct (Try.prog.fieldsOf 24)) := by kernel_rfl
  have hp : Try.prog.stoodInHeld 24 = false := by kernel_rfl
  obtain ⟨a1, a2, a3⟩ := a
  obtain ⟨b1, b2, b3⟩ := b
  rw [show (10000 : Nat) = 9999 + 1 from rfl, run_equalIn_agg w 9999 24 _ _ hS hp]
  simp only [Program.fieldsOf, Try.underlying24]
  go_simp
  by_cases h : a1 = b1
  rotate_left
  · simp [h] <;> (intros; omega)
  subst h
  by_cases h : a2 = b2
  rotate_left
  · simp [h] <;> (intros; omega)
  subst h
  by_cases h : a3 = b3 <;> simp [h] <;> (intros; omega)
theorem eqPl_run (a1 a2 a3 b1 b2 b3 : Nat) (w : World) : (binOp .eql 24 (.agg #[.int .u32 (a1 : Nat), .int .u32 (a2 : Nat), .int .u32 (a3 : Nat)]) (.agg #[.int .u32 (b1 : Nat), .int .u32 (b2 : Nat), .int .u32 (b3 : Nat)])).run Try.prog w = .ok (.bool (decide ((a1, a2, a3) = (b1, b2, b3)))) w := by
  rw [run_eql_struct, eqInPl_run (a1, a2, a3) (b1, b2, b3)]; rfl
theorem eqPl0_run (a1 a2 a3 : Nat) (w : World) : (binOp .eql 24 (.agg #[.int .u32 (a1 : Nat), .int .u32 (a2 : Nat), .int .u32 (a3 : Nat)]) (.agg #[.int .u32 0, .int .u32 0, .int .u32 0])).run Try.prog w = .ok (.bool (decide (a1 = 0 ∧ a2 = 0 ∧ a3 = 0))) w := by
  have := eqPl_run a1 a2 a3 0 0 0 w
  rw [show decide ((a1, a2, a3) = (0, 0, 0)) = decide (a1 = 0 ∧ a2 = 0 ∧ a3 = 0) by simp] at this
  exact this

theorem fempty_any (f : FrD) (A : Option Addr) (c : Nat) (w : World) : Calls Try.prog 35 #[.agg (frC f A c)] w fun e w' => e = .returned (.bool (emptyF f)) ∧ Below w.heap.size w w' := by
  obtain ⟨kd, ep, se, fc, fb, fn, cn, cl, sm, l, n⟩ := f
  obtain ⟨r, hr⟩ : ∃ r, r = emptyF ⟨kd, ep, se, fc, fb, fn, cn, cl, sm, l, n⟩ := ⟨_, rfl⟩
  rw [← hr]
  unfold emptyF noneF at hr
  simp only [frC] at hr ⊢
  have HK := Lib.hid ((Qs.zero w).box #[.int .u8 (kd : Nat), .int .u32 (ep : Nat), .int .u32 (se : Nat), .int .u32 (fc : Nat), .int .u32 (fb : Nat), .int .u32 (fn : Nat), .int .u32 (cn : Nat), .bool cl, .int .u64 (sm : Nat), .slice A l.length c, .int .i64 n] 30)
  have C := HK.out.says
  simp only [sayAll, cellsSay, qB, qW, Nat.reduceAdd, and_true, true_and] at C
  by_cases c0 : cn = 0
  rotate_left
  · have h_cn : (((cn : Nat) : Int) == 0) = false := beq_eq_false_iff_ne.2 (by omega)
    have Hr := Lib.hid (show r = false by rw [hr]; simp [c0, -List.length_eq_zero_iff])
    clear hr c0
    go_enter Try.func35, Try.ntmps35
    go_wp2_with fail
    go_ret
    exact ⟨by rw [Hr.out]; rfl, HK.out.top 1⟩
  have h_cn : (((cn : Nat) : Int) == 0) = true := beq_iff_eq.2 (by omega)
  by_cases c1 : cl = false
  rotate_left
  · have hcl : cl = true := by simpa using c1
    have Hr := Lib.hid (show r = false by rw [hr]; simp [c0, c1, -List.length_eq_zero_iff])
    subst hcl
    clear hr c0
    go_enter Try.func35, Try.ntmps35
    go_wp2_with fail
    go_ret
    exact ⟨by rw [Hr.out]; rfl, HK.out.top 1⟩
  have hcl : cl = false := by simpa using c1
  by_cases c2 : n = 0
  rotate_left
  · have h_n : ((n : Int) == 0) = false := beq_eq_false_iff_ne.2 (by omega)
    have Hr := Lib.hid (show r = false by rw [hr]; simp [c0, c1, c2, -List.length_eq_zero_iff])
    subst hcl
    clear hr c0 c2
    go_enter Try.func35, Try.ntmps35
    go_wp2_with fail
    go_ret
    exact ⟨by rw [Hr.out]; rfl, HK.out.top 1⟩
  have h_n : ((n : Int) == 0) = true := beq_iff_eq.2 (by omega)
  by_cases c3 : l.length = 0
  rotate_left
  · have h_l : (((l.length : Nat) : Int) == 0) = false := beq_eq_false_iff_ne.2 (by omega)
    have Hr := Lib.hid (show r = false by rw [hr]; simp [c0, c1, c2, c3, -List.length_eq_zero_iff])
    subst hcl
    clear hr c0 c2 c3
    go_enter Try.func35, Try.ntmps35
    go_wp2_with fail
    go_ret
    exact ⟨by rw [Hr.out]; rfl, HK.out.top 1⟩
  have h_l : (((l.length : Nat) : Int) == 0) = true := beq_iff_eq.2 (by omega)
  have Hr := Lib.hid (show r = true by rw [hr]; simp [c0, c1, c2, c3, -List.length_eq_zero_iff])
  subst hcl
  clear hr c0 c2 c3
  go_enter Try.func35, Try.ntmps35
  go_wp2_with fail
  go_ret
  exact ⟨by rw [Hr.out]; rfl, HK.out.top 1⟩

theorem rnone_any (l : List UInt8) (n : Int) (A : Option Addr) (c : Nat) (w : World) : Calls Try.prog 37 #[.agg #[.slice A l.length c, .int .i64 n]] w fun e w' => e = .returned (.bool (decide (n = 0) && decide (l.length = 0))) ∧ Below w.heap.size w w' := by
  have HK := Lib.hid ((Qs.zero w).box #[.slice A l.length c, .int .i64 n] 28)
  have C := HK.out.says
  simp only [sayAll, cellsSay, qB, qW, Nat.reduceAdd, and_true, true_and] at C
  obtain ⟨r, hr⟩ : ∃ r, r = (decide (n = 0) && decide (l.length = 0)) := ⟨_, rfl⟩
  rw [← hr]
  by_cases c0 : n = 0
  rotate_left
  · have h_n : ((n : Int) == 0) = false := beq_eq_false_iff_ne.2 (by omega)
    have Hr := Lib.hid (show r = false by rw [hr]; simp [c0, -List.length_eq_zero_iff])
    clear hr c0
    go_enter Try.func37, Try.ntmps37
    go_wp2_with fail
    go_ret
    exact ⟨by rw [Hr.out]; rfl, HK.out.top 1⟩
  have h_n : ((n : Int) == 0) = true := beq_iff_eq.2 (by omega)
  by_cases c1 : l.length = 0
  rotate_left
  · have h_l : (((l.length : Nat) : Int) == 0) = false := beq_eq_false_iff_ne.2 (by omega)
    have Hr := Lib.hid (show r = false by rw [hr]; simp [c0, c1, -List.length_eq_zero_iff])
    clear hr c0 c1
    go_enter Try.func37, Try.ntmps37
    go_wp2_with fail
    go_ret
    exact ⟨by rw [Hr.out]; rfl, HK.out.top 1⟩
  have h_l : (((l.length : Nat) : Int) == 0) = true := beq_iff_eq.2 (by omega)
  have Hr := Lib.hid (show r = true by rw [hr]; simp [c0, c1, -List.length_eq_zero_iff])
  clear hr c0 c1
  go_enter Try.func37, Try.ntmps37
  go_wp2_with fail
  go_ret
  exact ⟨by rw [Hr.out]; rfl, HK.out.top 1⟩

theorem fbrings_any (f : FrD) (A : Option Addr) (c : Nat) (w : World) (hA : Bs w A f.l) (ho : f.ok) (hL : f.l.length ≤ 100000) : Calls Try.prog 36 #[.agg (frC f A c)] w fun e w' => e = .returned (.bool (bringF f)) ∧ Below w.heap.size w w' := by
  obtain ⟨kd, ep, se, fc, fb, fn, cn, cl, sm, l, n⟩ := f
  simp only at hA hL
  have hno := And.intro ho.2.2.2.2.2.2.2.2.1 ho.2.2.2.2.2.2.2.2.2
  simp only at hno
  obtain ⟨r, hr⟩ : ∃ r, r = bringF ⟨kd, ep, se, fc, fb, fn, cn, cl, sm, l, n⟩ := ⟨_, rfl⟩
  rw [← hr]
  unfold bringF at hr
  simp only [frC] at hr ⊢
  have HK := Lib.hid ((Qs.zero w).box #[.int .u8 (kd : Nat), .int .u32 (ep : Nat), .int .u32 (se : Nat), .int .u32 (fc : Nat), .int .u32 (fb : Nat), .int .u32 (fn : Nat), .int .u32 (cn : Nat), .bool cl, .int .u64 (sm : Nat), .slice A l.length c, .int .i64 n] 30)
  have HS := Lib.hid (sound_any A c l n (w.alloc (.cells #[.int .u8 (kd : Nat), .int .u32 (ep : Nat), .int .u32 (se : Nat), .int .u32 (fc : Nat), .int .u32 (fb : Nat), .int .u32 (fn : Nat), .int .u32 (cn : Nat), .bool cl, .int .u64 (sm : Nat), .slice A l.length c, .int .i64 n] 30)) (hA.below (below_alloc w _)) hno (by unfold maxLen; omega))
  have C := HK.out.says
  simp only [sayAll, cellsSay, qB, qW, Nat.reduceAdd, and_true, true_and] at C
  have hw : IntKind.i64.wrap (44 + (l.length : Int)) = 44 + (l.length : Int) := by rw [IntKind.wrap_i64]; omega
  clear hA ho hno
  by_cases c0 : soundB l n = true
  rotate_left
  · have hs : soundB l n = false := by simpa using c0
    rw [hs] at HS
    have Hr := Lib.hid (show r = false by rw [hr]; simp [c0])
    clear hr hs c0
    go_enter Try.func36, Try.ntmps36
    go_wp2_with fail
    refine HS.out.mono ?_
    rintro e w1 ⟨rfl, b1⟩
    have HK1 := Lib.hid (HK.out.go b1)
    clear C b1
    have C := HK1.out.says
    simp only [sayAll, cellsSay, qB, qW, Nat.reduceAdd, and_true, true_and] at C
    go_wp2_with fail
    go_ret
    exact ⟨by rw [Hr.out]; rfl, HK1.out.top 1⟩
  have hs : soundB l n = true := by exact c0
  rw [hs] at HS
  by_cases c1 : 0 < n
  rotate_left
  · have h_n : decide (0 < n) = false := decide_eq_false (by omega)
    have Hr := Lib.hid (show r = false by rw [hr]; simp [c0, c1])
    clear hr hs c0 c1
    go_enter Try.func36, Try.ntmps36
    go_wp2_with fail
    refine HS.out.mono ?_
    rintro e w1 ⟨rfl, b1⟩
    have HK1 := Lib.hid (HK.out.go b1)
    clear C b1
    have C := HK1.out.says
    simp only [sayAll, cellsSay, qB, qW, Nat.reduceAdd, and_true, true_and] at C
    go_wp2_with fail
    go_ret
    exact ⟨by rw [Hr.out]; rfl, HK1.out.top 1⟩
  have h_n : decide (0 < n) = true := decide_eq_true (by omega)
  by_cases c2 : fn < cn
  rotate_left
  · have h_f : decide (fn < cn) = false := decide_eq_false (by omega)
    have h_f2 : decide ((fn : Int) < (cn : Int)) = false := decide_eq_false (by omega)
    have Hr := Lib.hid (show r = false by rw [hr]; simp [c0, c1, c2])
    clear hr hs c0 c1 c2
    go_enter Try.func36, Try.ntmps36
    go_wp2_with fail
    refine HS.out.mono ?_
    rintro e w1 ⟨rfl, b1⟩
    have HK1 := Lib.hid (HK.out.go b1)
    clear C b1
    have C := HK1.out.says
    simp only [sayAll, cellsSay, qB, qW, Nat.reduceAdd, and_true, true_and] at C
    go_wp2_with fail
    go_ret
    exact ⟨by rw [Hr.out]; rfl, HK1.out.top 1⟩
  have h_f : decide (fn < cn) = true := decide_eq_true (by omega)
  have h_f2 : decide ((fn : Int) < (cn : Int)) = true := decide_eq_true (by omega)
  by_cases c3 : l.length ≤ 4052
  rotate_left
  · have h_l : decide ((44 : Int) + (l.length : Int) ≤ 4096) = false := decide_eq_false (by omega)
    have Hr := Lib.hid (show r = false by rw [hr]; simp [c0, c1, c2, c3])
    clear hr hs c0 c1 c2 c3
    go_enter Try.func36, Try.ntmps36
    go_wp2_with fail
    refine HS.out.mono ?_
    rintro e w1 ⟨rfl, b1⟩
    have HK1 := Lib.hid (HK.out.go b1)
    clear C b1
    have C := HK1.out.says
    simp only [sayAll, cellsSay, qB, qW, Nat.reduceAdd, and_true, true_and] at C
    go_wp2_with fail
    go_ret
    exact ⟨by rw [Hr.out]; rfl, HK1.out.top 1⟩
  have h_l : decide ((44 : Int) + (l.length : Int) ≤ 4096) = true := decide_eq_true (by omega)
  have Hr := Lib.hid (show r = true by rw [hr]; simp [c0, c1, c2, c3])
  clear hr hs c0 c1 c2 c3
  go_enter Try.func36, Try.ntmps36
  go_wp2_with fail
  refine HS.out.mono ?_
  rintro e w1 ⟨rfl, b1⟩
  have HK1 := Lib.hid (HK.out.go b1)
  clear C b1
  have C := HK1.out.says
  simp only [sayAll, cellsSay, qB, qW, Nat.reduceAdd, and_true, true_and] at C
  go_wp2_with fail
  go_ret
  exact ⟨by rw [Hr.out]; rfl, HK1.out.top 1⟩

set_option maxHeartbeats 4000000 in
theorem fmay_any (f : FrD) (A : Option Addr) (c : Nat) (w : World) (hA : Bs w A f.l) (ho : f.ok) (hL : f.l.length ≤ 100000) : Calls Try.prog 16 #[.agg (frC f A c)] w fun e w' => e = .returned (.bool (mayF f)) ∧ Below w.heap.size w w' := by
  have hE := fempty_any f A c (w.alloc (.cells (frC f A c) 30))
  have hB := fbrings_any f A c (w.alloc (.cells (frC f A c) 30)) (hA.below (below_alloc w _)) ho hL
  obtain ⟨eb, heb⟩ : ∃ eb, eb = emptyF f := ⟨_, rfl⟩
  obtain ⟨bb, hbb⟩ : ∃ bb, bb = bringF f := ⟨_, rfl⟩
  obtain ⟨r, hr⟩ : ∃ r, r = mayF f := ⟨_, rfl⟩
  rw [← hr]
  rw [← heb] at hE
  rw [← hbb] at hB
  unfold mayF at hr
  rw [← heb, ← hbb] at hr
  clear hA hL ho heb hbb
  obtain ⟨kd, ep, se, fc, fb, fn, cn, cl, sm, l, n⟩ := f
  simp only [frC] at hr hE hB ⊢
  have HE := Lib.hid hE
  have HB := Lib.hid hB
  have HK := Lib.hid ((Qs.zero w).box #[.int .u8 (kd : Nat), .int .u32 (ep : Nat), .int .u32 (se : Nat), .int .u32 (fc : Nat), .int .u32 (fb : Nat), .int .u32 (fn : Nat), .int .u32 (cn : Nat), .bool cl, .int .u64 (sm : Nat), .slice A l.length c, .int .i64 n] 30)
  have C := HK.out.says
  simp only [sayAll, cellsSay, qB, qW, Nat.reduceAdd, and_true, true_and] at C
  have hP := fun w => eqPl0_run fc fb fn w
  clear hE hB
  by_cases k1 : kd = 1
  · subst k1
    by_cases c0 : se = 0
    rotate_left
    · have h_se : (((se : Nat) : Int) == 0) = false := beq_eq_false_iff_ne.2 (by omega)
      have Hr := Lib.hid (show r = false by rw [hr]; simp only [if_true]; rw [decide_eq_false c0]; simp)
      clear hr c0
      go_enter Try.func16, Try.ntmps16
      go_wp2_with fail
      go_ret
      exact ⟨by rw [Hr.out]; rfl, HK.out.top 1⟩
    have h_se : (((se : Nat) : Int) == 0) = true := beq_iff_eq.2 (by omega)
    by_cases c1 : fc = 0 ∧ fb = 0 ∧ fn = 0
    rotate_left
    · rw [decide_eq_false c1] at hP
      have Hr := Lib.hid (show r = false by rw [hr]; simp only [if_true]; rw [decide_eq_false c1]; simp)
      clear hr c0 c1
      go_enter Try.func16, Try.ntmps16
      go_wp2_with fail
      go_ret
      exact ⟨by rw [Hr.out]; rfl, HK.out.top 1⟩
    rw [decide_eq_true c1] at hP
    by_cases c2 : sm = 0
    rotate_left
    · have h_sm : (((sm : Nat) : Int) == 0) = false := beq_eq_false_iff_ne.2 (by omega)
      have Hr := Lib.hid (show r = false by rw [hr]; simp only [if_true]; rw [decide_eq_false c2]; simp)
      clear hr c0 c1 c2
      go_enter Try.func16, Try.ntmps16
      go_wp2_with fail
      go_ret
      exact ⟨by rw [Hr.out]; rfl, HK.out.top 1⟩
    have h_sm : (((sm : Nat) : Int) == 0) = true := beq_iff_eq.2 (by omega)
    have Hr := Lib.hid (show r = eb by rw [hr]; simp only [if_true]; rw [decide_eq_true c0, decide_eq_true c1, decide_eq_true c2]; simp)
    clear hr c0 c1 c2
    go_enter Try.func16, Try.ntmps16
    go_wp2_with fail
    refine HE.out.mono ?_
    rintro e w1 ⟨rfl, b1⟩
    have HK1 := Lib.hid (HK.out.go b1)
    go_wp2_with fail
    go_ret
    exact ⟨by rw [Hr.out]; rfl, HK1.out.top 1⟩
  by_cases k4 : kd = 4 ∨ kd = 5
  · have Hr := Lib.hid (show r = eb by rw [hr, if_neg k1, if_pos k4])
    clear hr k1
    rcases k4 with rfl | rfl
    · go_enter Try.func16, Try.ntmps16
      go_wp2_with fail
      refine HE.out.mono ?_
      rintro e w1 ⟨rfl, b1⟩
      have HK1 := Lib.hid (HK.out.go b1)
      go_wp2_with fail
      go_ret
      exact ⟨by rw [Hr.out]; rfl, HK1.out.top 1⟩
    · go_enter Try.func16, Try.ntmps16
      go_wp2_with fail
      refine HE.out.mono ?_
      rintro e w1 ⟨rfl, b1⟩
      have HK1 := Lib.hid (HK.out.go b1)
      go_wp2_with fail
      go_ret
      exact ⟨by rw [Hr.out]; rfl, HK1.out.top 1⟩
  by_cases k2 : kd = 2
  · have Hr := Lib.hid (show r = bb by rw [hr, if_neg k1, if_neg k4, if_pos k2])
    subst k2
    clear hr k1 k4
    go_enter Try.func16, Try.ntmps16
    go_wp2_with fail
    refine HB.out.mono ?_
    rintro e w1 ⟨rfl, b1⟩
    have HK1 := Lib.hid (HK.out.go b1)
    go_wp2_with fail
    go_ret
    exact ⟨by rw [Hr.out]; rfl, HK1.out.top 1⟩
  by_cases k3 : kd = 3
  · subst k3
    by_cases c0 : fb = 0
    rotate_left
    · have h_fb : (((fb : Nat) : Int) == 0) = false := beq_eq_false_iff_ne.2 (by omega)
      have Hr := Lib.hid (show r = false by rw [hr, if_neg k1, if_neg k4, if_neg k2, if_pos rfl, decide_eq_false c0]; simp)
      clear hr k1 k4 k2 c0
      go_enter Try.func16, Try.ntmps16
      go_wp2_with fail
      go_ret
      exact ⟨by rw [Hr.out]; rfl, HK.out.top 1⟩
    have h_fb : (((fb : Nat) : Int) == 0) = true := beq_iff_eq.2 (by omega)
    by_cases c1 : fn = 0
    rotate_left
    · have h_fn : (((fn : Nat) : Int) == 0) = false := beq_eq_false_iff_ne.2 (by omega)
      have Hr := Lib.hid (show r = false by rw [hr, if_neg k1, if_neg k4, if_neg k2, if_pos rfl, decide_eq_false c1]; simp)
      clear hr k1 k4 k2 c0 c1
      go_enter Try.func16, Try.ntmps16
      go_wp2_with fail
      go_ret
      exact ⟨by rw [Hr.out]; rfl, HK.out.top 1⟩
    have h_fn : (((fn : Nat) : Int) == 0) = true := beq_iff_eq.2 (by omega)
    by_cases c2 : sm = 0
    rotate_left
    · have h_sm : (((sm : Nat) : Int) == 0) = false := beq_eq_false_iff_ne.2 (by omega)
      have Hr := Lib.hid (show r = false by rw [hr, if_neg k1, if_neg k4, if_neg k2, if_pos rfl, decide_eq_false c2]; simp)
      clear hr k1 k4 k2 c0 c1 c2
      go_enter Try.func16, Try.ntmps16
      go_wp2_with fail
      go_ret
      exact ⟨by rw [Hr.out]; rfl, HK.out.top 1⟩
    have h_sm : (((sm : Nat) : Int) == 0) = true := beq_iff_eq.2 (by omega)
    have Hr := Lib.hid (show r = bb by rw [hr, if_neg k1, if_neg k4, if_neg k2, if_pos rfl, decide_eq_true c0, decide_eq_true c1, decide_eq_true c2]; simp)
    clear hr k1 k4 k2 c0 c1 c2
    go_enter Try.func16, Try.ntmps16
    go_wp2_with fail
    refine HB.out.mono ?_
    rintro e w1 ⟨rfl, b1⟩
    have HK1 := Lib.hid (HK.out.go b1)
    go_wp2_with fail
    go_ret
    exact ⟨by rw [Hr.out]; rfl, HK1.out.top 1⟩
  have Hr := Lib.hid (show r = false by rw [hr, if_neg k1, if_neg k4, if_neg k2, if_neg k3])
  have h1 : (((kd : Nat) : Int) == 1) = false := beq_eq_false_iff_ne.2 (by omega)
  have h2 : (((kd : Nat) : Int) == 2) = false := beq_eq_false_iff_ne.2 (by omega)
  have h3 : (((kd : Nat) : Int) == 3) = false := beq_eq_false_iff_ne.2 (by omega)
  have h4 : (((kd : Nat) : Int) == 4) = false := beq_eq_false_iff_ne.2 (by omega)
  have h5 : (((kd : Nat) : Int) == 5) = false := beq_eq_false_iff_ne.2 (by omega)
  clear hr k1 k2 k3 k4
  go_enter Try.func16, Try.ntmps16
  go_wp2_with fail
  go_ret
  exact ⟨by rw [Hr.out]; rfl, HK.out.top 1⟩

end Go.Proofs.Ytpedobpbpomkaaa
