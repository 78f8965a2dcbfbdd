/- Layer 7: the walk of FrameApart. -/
import Derived.Test.YtpedobpbpomkaaaFr18
set_option linter.unusedSimpArgs false
set_option linter.unusedVariables false
namespace Go.Proofs.Ytpedobpbpomkaaa
open Go.RowKit
set_option maxRecDepth 100000

theorem apart_eq (f g : FrD) (ho : f.ok) (hg : g.ok) (hf : encE f = 0) (hh : encE g = 0) : decide (encR f = encR g) = sameF f g := by
  have h1 : mayF f = true := by unfold encE at hf; split at hf <;> first | assumption | cases hf
  have h2 : mayF g = true := by unfold encE at hh; split at hh <;> first | assumption | cases hh
  rw [Bool.eq_iff_iff, sameF_iff, decide_eq_true_iff]
  unfold encR
  rw [if_pos h1, if_pos h2]
  constructor
  · intro h
    have := congrArg decF h
    rw [dec_enc ho h1, dec_enc hg h2] at this
    exact congrArg Prod.fst this
  · rintro rfl; rfl
theorem encE_two (f : FrD) : encE f = 0 ∨ encE f = 70 := by unfold encE; split <;> simp

set_option maxHeartbeats 4000000 in
theorem frameApart_walk (f g : FrD) (A B : Option Addr) (c d : Nat) (w : World) (hA : Bs w A f.l) (hB : Bs w B g.l) (hl : f.l.length ≤ maxLen) (hm : g.l.length ≤ maxLen) (ho : f.ok) (hg : g.ok) :
    Calls Try.prog 7 #[.agg (frC f A c), .agg (frC g B d)] w fun e w' => e = .returned (.bool true) ∧ Below w.heap.size w w' := by
  unfold maxLen at hl hm
  have hap := apart_eq f g ho hg
  have h70 := encE_two f
  have h71 := encE_two g
  have hEf := fun (W : World) (hb : Below w.heap.size w W) (h : f.l.length ≤ 4300) => fenc_any f A c W (hA.below hb) ho (by omega)
  have hEg := fun (W : World) (hb : Below w.heap.size w W) (h : g.l.length ≤ 4300) => fenc_any g B d W (hB.below hb) hg (by omega)
  have hS := fun (W : World) (hb : Below w.heap.size w W) => rfsame_any f g A B c d W (hA.below hb) (hB.below hb)
  obtain ⟨e1, he1⟩ : ∃ e, e = encE f := ⟨_, rfl⟩
  obtain ⟨e2, he2⟩ : ∃ e, e = encE g := ⟨_, rfl⟩
  obtain ⟨r1, hr1⟩ : ∃ e, e = encR f := ⟨_, rfl⟩
  obtain ⟨r2, hr2⟩ : ∃ e, e = encR g := ⟨_, rfl⟩
  obtain ⟨sb, hsb⟩ : ∃ e, e = sameF f g := ⟨_, rfl⟩
  rw [← he1, ← hr1] at hEf
  rw [← he2, ← hr2] at hEg
  rw [← hsb] at hS
  rw [← hr1, ← hr2, ← hsb, ← he1, ← he2] at hap
  rw [← he1] at h70
  rw [← he2] at h71
  clear hA hB ho hg he1 he2 hr1 hr2 hsb
  obtain ⟨kd, ep, se, fc, fb, fn, cn, cl, sm, l, n⟩ := f
  obtain ⟨kd2, ep2, se2, fc2, fb2, fn2, cn2, cl2, sm2, l2, n2⟩ := g
  simp only [frC] at hEf hEg hS hl hm ⊢
  have HEf := Lib.hid hEf
  have HEg := Lib.hid hEg
  have HS := Lib.hid hS
  have HAp := Lib.hid hap
  have HK0 := (Qs.zero w).box #[.int .u8 (kd : Nat), .int .u32 (ep : Nat), .int .u32 (se : Nat), .int .u32 (fc : Nat), .int .u32 (fb : Nat), .int .u32 (fn : Nat), .int .u32 (cn : Nat), .bool cl, .int .u64 (sm : Nat), .slice A l.length c, .int .i64 n] 30
  have s1 : ∀ o, (w.alloc o).heap.size = w.heap.size + 1 := fun o => by simp
  have HK2 := HK0.box #[.int .u8 (kd2 : Nat), .int .u32 (ep2 : Nat), .int .u32 (se2 : Nat), .int .u32 (fc2 : Nat), .int .u32 (fb2 : Nat), .int .u32 (fn2 : Nat), .int .u32 (cn2 : Nat), .bool cl2, .int .u64 (sm2 : Nat), .slice B l2.length d, .int .i64 n2] 30
  simp only [s1] at HK2
  have HK := Lib.hid HK2
  clear HK0 HK2 s1 hEf hEg hS hap
  have C := HK.out.says
  simp only [sayAll, cellsSay, qB, qW, Nat.reduceAdd, and_true, true_and] at C
  by_cases h1 : l.length ≤ 4300 ∧ l2.length ≤ 4300
  rotate_left
  · by_cases h2 : 4300 < l.length
    · have hI : (4300 : Int) < l.length := by omega
      go_enter Try.func7, Try.ntmps7
      go_wp2_with fail
      refine (fknown_any _).mono ?_
      rintro e w1 ⟨rfl, b1⟩
      have HK1 := Lib.hid (HK.out.go b1)
      clear b1
      go_wp2_with fail
      go_ret
      exact ⟨rfl, HK1.out.top 2⟩
    · have hI : ¬ (4300 : Int) < l.length := by omega
      have hJ : (4300 : Int) < l2.length := by omega
      go_enter Try.func7, Try.ntmps7
      go_wp2_with fail
      refine (fknown_any _).mono ?_
      rintro e w1 ⟨rfl, b1⟩
      have HK1 := Lib.hid (HK.out.go b1)
      clear b1
      go_wp2_with fail
      go_ret
      exact ⟨rfl, HK1.out.top 2⟩
  have hI : ¬ (4300 : Int) < l.length := by omega
  have hJ : ¬ (4300 : Int) < l2.length := by omega
  go_enter Try.func7, Try.ntmps7
  go_wp2_with fail
  refine (fknown_any _).mono ?_
  rintro e w1 ⟨rfl, b1⟩
  replace HK := Lib.hid (HK.out.go b1)
  have C := HK.out.says
  simp only [sayAll, cellsSay, qB, qW, Nat.reduceAdd, and_true, true_and] at C
  clear b1
  go_wp2_with fail
  refine (HEf.out _ (HK.out.top 2) h1.1).mono ?_
  rintro e w2 ⟨A1, c1, rfl, H1⟩
  obtain ⟨o1, b1⟩ := H1.out
  replace HK := Lib.hid ((HK.out.go b1).own_ o1)
  have C := HK.out.says
  simp only [sayAll, cellsSay, qB, qW, qO, Nat.reduceAdd, and_true, true_and] at C
  clear b1 o1 H1
  go_wp2_with fail
  refine (HEg.out _ (HK.out.top 3) h1.2).mono ?_
  rintro e w3 ⟨A2, c2, rfl, H1⟩
  obtain ⟨o1, b1⟩ := H1.out
  replace HK := Lib.hid ((HK.out.go b1).own_ o1)
  have C := HK.out.says
  simp only [sayAll, cellsSay, qB, qW, qO, Nat.reduceAdd, and_true, true_and] at C
  clear b1 o1 H1
  by_cases he : e1 = 0 ∧ e2 = 0
  · obtain ⟨rfl, rfl⟩ := he
    have hst := fun x => str_of ((HK.out.own 1).bs.below (plus_below w3 x)) c1
    have hsu := fun x => str_of ((HK.out.own 0).bs.below (plus_below w3 x)) c2
    have hse := str_eq r1 r2
    have Hq := Lib.hid (HAp.out rfl rfl)
    have hp := plus_cell w3
    go_wp2_with fail
    refine wp_region_ext (by kernel_rfl) (by kernel_rfl) ?_
    repeat (go_big_quiet_step ((go_at_call 21; exact ext_of (HS.out _ ((HK.out.top 4).trans ((plus_below _ _).mono (HK.out.top 4).size))))))
    refine wpQuiet_nil ?_
    rintro w9 ⟨x, rfl⟩
    go_wp2_with fail
    go_ret
    exact ⟨by simp; rw [← Hq.out, Bool.eq_iff_iff]; simp, on1 (HK.out.top 4) (plus_below _ _)⟩
  · rcases h70 with rfl | rfl
    · rcases h71 with rfl | rfl
      · exact absurd ⟨rfl, rfl⟩ he
      · go_wp2_with fail
        go_ret
        exact ⟨rfl, HK.out.top 4⟩
    · go_wp2_with fail
      go_ret
      exact ⟨rfl, HK.out.top 4⟩

end Go.Proofs.Ytpedobpbpomkaaa
