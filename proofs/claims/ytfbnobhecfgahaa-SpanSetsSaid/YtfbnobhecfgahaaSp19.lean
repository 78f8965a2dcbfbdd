/- Layer 23: the walk of SpanSets. -/
import Derived.Test.YtfbnobhecfgahaaSp14
import Derived.Test.YtfbnobhecfgahaaSp15
set_option linter.unusedSimpArgs false
set_option linter.unusedVariables false
namespace Go.Proofs.Ytfbnobhecfgahaa
open Go.RowKit
set_option maxRecDepth 100000

theorem hasB_or {R X : List Sp} {p : Prop} [Decidable p] {t : Int} (h : Mem t R ↔ Mem t X ∨ p) : hasB R t = (hasB X t || decide p) := by
  unfold hasB; rw [Bool.eq_iff_iff, Bool.or_eq_true, decide_eq_true_iff, decide_eq_true_iff, decide_eq_true_iff]; exact h
theorem hasB_not {R X : List Sp} {p : Prop} [Decidable p] {t : Int} (h : Mem t R ↔ Mem t X ∧ ¬ p) : hasB R t = (hasB X t && !decide p) := by
  unfold hasB; rw [Bool.eq_iff_iff, Bool.and_eq_true, Bool.not_eq_true', decide_eq_true_iff, decide_eq_true_iff, decide_eq_false_iff_not]; exact h
set_option maxHeartbeats 16000000 in
theorem spanSets_walk (V : Option Addr) (c : Nat) (l : List Sp) (s1 s2 t : Int) (w : World) (hV : Ps w V l) (hi : InL l) (hi1 : In s1) (hi2 : In s2) :
    Calls Try.prog 7 #[.slice V l.length c, .agg #[.int .i64 s1, .int .i64 s2], .int .i64 t] w fun e w' => e = .returned (.bool true) ∧ Below w.heap.size w w' := by
  by_cases hlen : 30 < l.length
  · have hd : decide ((30 : Int) < l.length) = true := decide_eq_true (by omega)
    clear hV hi
    go_enter Try.func7, Try.ntmps7
    go_wp2_with fail
    refine (sknown_any _).mono ?_
    rintro e w1 ⟨rfl, b⟩
    have HB := Lib.hid ((below_alloc w _).trans (b.mono (below_alloc w _).size))
    clear b
    go_wp2_with fail
    go_ret
    exact ⟨rfl, HB.out⟩
  · have hd : decide ((30 : Int) < l.length) = false := decide_eq_false (by omega)
    have hl30 : l.length ≤ 30 := by omega
    have HV := Lib.hid hV
    have HI := Lib.hid (And.intro hi (And.intro hi1 hi2))
    clear hV hi hi1 hi2 hlen
    have HK0 := Lib.hid (Qs.zero w)
    have HK1 := Lib.hid (HK0.out.box #[.int .i64 s1, .int .i64 s2] 24)
    go_enter Try.func7, Try.ntmps7
    go_wp2_with fail
    refine (sknown_any _).mono ?_
    rintro e w1 ⟨rfl, b⟩
    have HK2 := Lib.hid (HK1.out.go b)
    clear b HK1
    have HC1 := Lib.hid (set_any V c l w1 (HV.out.below (HK2.out.top 1) (Nat.le_refl _)) HI.out.1 (by omega))
    go_wp2_with fail
    refine HC1.out.mono ?_
    rintro e w2 ⟨⟨X, AX, cX, hf, rfl, hown⟩, b⟩
    have HX := Lib.hid hf
    have HK3 := Lib.hid ((HK2.out.go b).cons (k := qV _ _ _ _ _ _) (hown.mono (Nat.zero_le _)))
    clear b hown hf HC1 HK2
    have C := HK3.out.says
    simp only [sayAll, cellsSay, qB, qW, qV, Nat.reduceAdd, and_true, true_and] at C
    go_upto_region 4 with fail
    go_cut [8] (fun s8 wx => s8 = .pointer (some ⟨w2.heap.size, 0, none⟩) ∧ ∃ lo hi : Int, Hid (In lo ∧ In hi) ∧ Hid (lo ≤ hi) ∧ Hid (Qs wx [qB w2.heap.size 24 #[.int .i64 lo, .int .i64 hi], qV 0 24 encS 2 (.slice AX X.length cX) X, qW w w.heap.size (Nat.le_refl _)]))
    case first =>
      rcases Int.lt_trichotomy s2 s1 with hm | hm | hm
      · have hm2 : ¬ s1 < s2 := by omega
        have hio := HI.out.2
        go_wp2_with fail
        go_meet
        refine ⟨rfl, s2, s1, Lib.hid ⟨hio.2, hio.1⟩, Lib.hid (by omega), Lib.hid (fun k hk => ?_)⟩
        have h9 := HK3.out.box #[.int .i64 s2, .int .i64 s1] 24
        simp only [List.mem_cons, List.not_mem_nil, or_false] at hk
        rcases hk with rfl | rfl | rfl
        · exact h9.get 0 rfl
        · exact h9.get 1 rfl
        · exact h9.get 3 rfl
      · obtain rfl : s2 = s1 := hm
        have hio := HI.out.2
        go_wp2_with fail
        go_meet
        refine ⟨rfl, s2, s2, Lib.hid ⟨hio.2, hio.2⟩, Lib.hid (by omega), Lib.hid (fun k hk => ?_)⟩
        have h9 := HK3.out.box #[.int .i64 s2, .int .i64 s2] 24
        simp only [List.mem_cons, List.not_mem_nil, or_false] at hk
        rcases hk with rfl | rfl | rfl
        · exact h9.get 0 rfl
        · exact h9.get 1 rfl
        · exact h9.get 3 rfl
      · have hm2 : ¬ s2 < s1 := by omega
        have hio := HI.out.2
        go_wp2_with fail
        go_meet
        refine ⟨rfl, s1, s2, Lib.hid ⟨hio.1, hio.2⟩, Lib.hid (by omega), Lib.hid (fun k hk => ?_)⟩
        have h9 := HK3.out.box #[.int .i64 s1, .int .i64 s2] 24
        simp only [List.mem_cons, List.not_mem_nil, or_false] at hk
        rcases hk with rfl | rfl | rfl
        · exact h9.get 0 rfl
        · exact h9.get 1 rfl
        · exact h9.get 3 rfl
    case rest =>
      obtain ⟨rfl, lo, hi, HIo, HLo, HK0⟩ := hcut
      clear C HK3
      have hXl := HX.out.len
      have hlt0 := (HK0.out.blk 0).lt
      obtain ⟨w2e, hw2e⟩ : ∃ w2e, w2e = wc := ⟨_, rfl⟩
      subst hw2e
      have C := HK0.out.says
      simp only [sayAll, cellsSay, qB, qW, qV, Nat.reduceAdd, and_true, true_and] at C
      have HC2 := Lib.hid (add_yes AX cX X lo hi w2e (sl_own (HK0.out.rowV 1)) HX.out.inl (by omega) HX.out.snd HLo.out HIo.out.1 HIo.out.2)
      go_wp2_with fail
      refine HC2.out.mono ?_
      rintro e w3 ⟨⟨Ra, ARa, cRa, hf, rfl, hown⟩, b⟩
      have HRa := Lib.hid hf
      have HK1 := Lib.hid ((HK0.out.go b).cons (k := qV _ _ _ _ _ _) (hown.mono (Nat.zero_le _)))
      clear b hown hf HC2 HK0
      clear C
      have C := HK1.out.says
      simp only [sayAll, cellsSay, qB, qW, qV, Nat.reduceAdd, and_true, true_and] at C
      have HC3 := Lib.hid (drop_yes AX cX X lo hi w3 (sl_own (HK1.out.rowV 2)) HX.out.inl (by omega) HX.out.snd HLo.out HIo.out.1 HIo.out.2)
      go_wp2_with fail
      refine HC3.out.mono ?_
      rintro e w4 ⟨⟨Rd, ARd, cRd, hf, rfl, hown⟩, b⟩
      have HRd := Lib.hid hf
      have HK2 := Lib.hid ((HK1.out.go b).cons (k := qV _ _ _ _ _ _) (hown.mono (Nat.zero_le _)))
      clear b hown hf HC3 HK1
      clear C
      have C := HK2.out.says
      simp only [sayAll, cellsSay, qB, qW, qV, Nat.reduceAdd, and_true, true_and] at C
      have hla := HRa.out.len
      have hld := HRd.out.len
      have ea := hasB_or (HRa.out.mem t)
      have ed := hasB_not (HRd.out.mem t)
      have hS1 : Hid (sndB X = true ∧ sndB Ra = true ∧ sndB Rd = true) := Lib.hid ⟨decide_eq_true HX.out.snd, decide_eq_true HRa.out.snd, decide_eq_true HRd.out.snd⟩
      obtain ⟨b1, hb1⟩ : ∃ b1, b1 = decide (lo ≤ t) := ⟨_, rfl⟩
      obtain ⟨b2, hb2⟩ : ∃ b2, b2 = decide (t ≤ hi) := ⟨_, rfl⟩
      obtain ⟨b3, hb3⟩ : ∃ b3, b3 = hasB X t := ⟨_, rfl⟩
      have hb : decide (lo ≤ t ∧ t ≤ hi) = (b1 && b2) := by rw [hb1, hb2]; exact Bool.decide_and _ _
      simp only at ea ed
      rw [hb, ← hb3] at ea ed
      have HE := Lib.hid (And.intro ea (And.intro ed hb3.symm))
      clear ea ed hb hb3
      replace hb1 := hb1.symm
      replace hb2 := hb2.symm
      cases b1 <;> cases b2 <;> cases b3
      all_goals
        simp only [Bool.and_true, Bool.and_false, Bool.true_and, Bool.false_and, Bool.or_true, Bool.or_false, Bool.not_true, Bool.not_false] at HE
        have HC4 := Lib.hid (has_any t AX cX X w4 (sl_own (HK2.out.rowV 3)).ps (by omega))
        rw [HE.out.2.2] at HC4
        go_wp2_with fail
        refine HC4.out.mono ?_
        rintro e w5 ⟨rfl, b⟩
        have HK3 := Lib.hid (HK2.out.go b)
        clear b HC4 HK2
        have HC5 := Lib.hid (sound_any AX cX X w5 (sl_own (HK3.out.rowV 3)).ps HX.out.inl (by omega))
        rw [hS1.out.1] at HC5
        go_wp2_with fail
        refine HC5.out.mono ?_
        rintro e w6 ⟨rfl, b⟩
        have HK4 := Lib.hid (HK3.out.go b)
        clear b HC5 HK3
        have HC6 := Lib.hid (sound_any ARa cRa Ra w6 (sl_own (HK4.out.rowV 1)).ps HRa.out.inl (by omega))
        rw [hS1.out.2.1] at HC6
        go_wp2_with fail
        refine HC6.out.mono ?_
        rintro e w7 ⟨rfl, b⟩
        have HK5 := Lib.hid (HK4.out.go b)
        clear b HC6 HK4
        have HC7 := Lib.hid (sound_any ARd cRd Rd w7 (sl_own (HK5.out.rowV 0)).ps HRd.out.inl (by omega))
        rw [hS1.out.2.2] at HC7
        go_wp2_with fail
        refine HC7.out.mono ?_
        rintro e w8 ⟨rfl, b⟩
        have HK6 := Lib.hid (HK5.out.go b)
        clear b HC7 HK5
        have HC8 := Lib.hid (has_any t ARa cRa Ra w8 (sl_own (HK6.out.rowV 1)).ps (by omega))
        rw [HE.out.1] at HC8
        go_wp2_with fail
        refine HC8.out.mono ?_
        rintro e w9 ⟨rfl, b⟩
        have HK7 := Lib.hid (HK6.out.go b)
        clear b HC8 HK6
        have HC9 := Lib.hid (has_any t ARd cRd Rd w9 (sl_own (HK7.out.rowV 0)).ps (by omega))
        rw [HE.out.2.1] at HC9
        go_wp2_with fail
        refine HC9.out.mono ?_
        rintro e w10 ⟨rfl, b⟩
        have HK8 := Lib.hid (HK7.out.go b)
        clear b HC9 HK7
        go_wp2_with fail
        go_ret
        exact ⟨rfl, HK8.out.top 4⟩

end Go.Proofs.Ytfbnobhecfgahaa
