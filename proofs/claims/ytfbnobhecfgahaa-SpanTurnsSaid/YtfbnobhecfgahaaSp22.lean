/- Layer 23: the walk of SpanTurns. -/
import Derived.Test.YtfbnobhecfgahaaSp14
import Derived.Test.YtfbnobhecfgahaaSp15
import Derived.Test.YtfbnobhecfgahaaSp13
set_option linter.unusedSimpArgs false
set_option linter.unusedVariables false
namespace Go.Proofs.Ytfbnobhecfgahaa
open Go.RowKit
set_option maxRecDepth 100000

theorem snd_none {R : List Sp} (h : Snd R) (hm : ∀ t, ¬ Mem t R) : R = [] := by
  cases R with
  | nil => rfl
  | cons x R => exact absurd ⟨x, by simp, Int.le_refl _, (snd_cons.1 h).1⟩ (hm x.1)
set_option maxHeartbeats 16000000 in
theorem spanTurns_walk (V : Option Addr) (c : Nat) (l : List Sp) (s1 s2 : Int) (w : World) (hV : Ps w V l) (hi : InL l) (hi1 : In s1) (hi2 : In s2) :
    Calls Try.prog 3 #[.slice V l.length c, .agg #[.int .i64 s1, .int .i64 s2]] w fun e w' => e = .returned (.bool true) ∧ Below w.heap.size w w' := by
  by_cases hlen : 30 < l.length
  · have hd : decide ((30 : Int) < l.length) = true := decide_eq_true (by omega)
    clear hV hi
    go_enter Try.func3, Try.ntmps3
    go_wp2_with fail
    refine (sknown_any _).mono ?_
    rintro e w1 ⟨rfl, b⟩
    have HB := Lib.hid ((below_alloc w _).trans (b.mono (below_alloc w _).size))
    clear b
    go_wp2_with fail
    go_ret
    exact ⟨rfl, HB.out⟩
  · have hd : decide ((30 : Int) < l.length) = false := decide_eq_false (by omega)
    have hl30 : l.length ≤ 30 := by omega
    have HV := Lib.hid hV
    have HI := Lib.hid (And.intro hi (And.intro hi1 hi2))
    clear hV hi hi1 hi2 hlen
    have HK0 := Lib.hid (Qs.zero w)
    have HK1 := Lib.hid (HK0.out.box #[.int .i64 s1, .int .i64 s2] 24)
    go_enter Try.func3, Try.ntmps3
    go_wp2_with fail
    refine (sknown_any _).mono ?_
    rintro e w1 ⟨rfl, b⟩
    have HK2 := Lib.hid (HK1.out.go b)
    clear b HK1
    have HC1 := Lib.hid (set_any V c l w1 (HV.out.below (HK2.out.top 1) (Nat.le_refl _)) HI.out.1 (by omega))
    go_wp2_with fail
    refine HC1.out.mono ?_
    rintro e w2 ⟨⟨X, AX, cX, hf, rfl, hown⟩, b⟩
    have HX := Lib.hid hf
    have HK3 := Lib.hid ((HK2.out.go b).cons (k := qV _ _ _ _ _ _) (hown.mono (Nat.zero_le _)))
    clear b hown hf HC1 HK2
    have C := HK3.out.says
    simp only [sayAll, cellsSay, qB, qW, qV, Nat.reduceAdd, and_true, true_and] at C
    go_upto_region 4 with fail
    go_cut [6] (fun s8 wx => s8 = .pointer (some ⟨w2.heap.size, 0, none⟩) ∧ ∃ lo hi : Int, Hid (In lo ∧ In hi) ∧ Hid (lo ≤ hi) ∧ Hid (Qs wx [qB w2.heap.size 24 #[.int .i64 lo, .int .i64 hi], qV 0 24 encS 2 (.slice AX X.length cX) X, qW w w.heap.size (Nat.le_refl _)]))
    case first =>
      rcases Int.lt_trichotomy s2 s1 with hm | hm | hm
      · have hm2 : ¬ s1 < s2 := by omega
        have hio := HI.out.2
        go_wp2_with fail
        go_meet
        refine ⟨rfl, s2, s1, Lib.hid ⟨hio.2, hio.1⟩, Lib.hid (by omega), Lib.hid (fun k hk => ?_)⟩
        have h9 := HK3.out.box #[.int .i64 s2, .int .i64 s1] 24
        simp only [List.mem_cons, List.not_mem_nil, or_false] at hk
        rcases hk with rfl | rfl | rfl
        · exact h9.get 0 rfl
        · exact h9.get 1 rfl
        · exact h9.get 3 rfl
      · obtain rfl : s2 = s1 := hm
        have hio := HI.out.2
        go_wp2_with fail
        go_meet
        refine ⟨rfl, s2, s2, Lib.hid ⟨hio.2, hio.2⟩, Lib.hid (by omega), Lib.hid (fun k hk => ?_)⟩
        have h9 := HK3.out.box #[.int .i64 s2, .int .i64 s2] 24
        simp only [List.mem_cons, List.not_mem_nil, or_false] at hk
        rcases hk with rfl | rfl | rfl
        · exact h9.get 0 rfl
        · exact h9.get 1 rfl
        · exact h9.get 3 rfl
      · have hm2 : ¬ s2 < s1 := by omega
        have hio := HI.out.2
        go_wp2_with fail
        go_meet
        refine ⟨rfl, s1, s2, Lib.hid ⟨hio.1, hio.2⟩, Lib.hid (by omega), Lib.hid (fun k hk => ?_)⟩
        have h9 := HK3.out.box #[.int .i64 s1, .int .i64 s2] 24
        simp only [List.mem_cons, List.not_mem_nil, or_false] at hk
        rcases hk with rfl | rfl | rfl
        · exact h9.get 0 rfl
        · exact h9.get 1 rfl
        · exact h9.get 3 rfl
    case rest =>
      obtain ⟨rfl, lo, hi, HIo, HLo, HK0⟩ := hcut
      clear C HK3
      have hXl := HX.out.len
      obtain ⟨w2e, hw2e⟩ : ∃ w2e, w2e = wc := ⟨_, rfl⟩
      subst hw2e
      have C := HK0.out.says
      simp only [sayAll, cellsSay, qB, qW, qV, Nat.reduceAdd, and_true, true_and] at C
      have HC2 := Lib.hid (add_yes AX cX X lo hi w2e (sl_own (HK0.out.rowV 1)) HX.out.inl (by omega) HX.out.snd HLo.out HIo.out.1 HIo.out.2)
      go_wp2_with fail
      refine HC2.out.mono ?_
      rintro e w3 ⟨⟨Ra, ARa, cRa, hf, rfl, hown⟩, b⟩
      have HRa := Lib.hid hf
      have HK1 := Lib.hid ((HK0.out.go b).cons (k := qV _ _ _ _ _ _) (hown.mono (Nat.zero_le _)))
      clear b hown hf HC2 HK0
      clear C
      have hRal := HRa.out.len
      have C := HK1.out.says
      simp only [sayAll, cellsSay, qB, qW, qV, Nat.reduceAdd, and_true, true_and] at C
      have HC3 := Lib.hid (drop_yes AX cX X lo hi w3 (sl_own (HK1.out.rowV 2)) HX.out.inl (by omega) HX.out.snd HLo.out HIo.out.1 HIo.out.2)
      go_wp2_with fail
      refine HC3.out.mono ?_
      rintro e w4 ⟨⟨Rb, ARb, cRb, hf, rfl, hown⟩, b⟩
      have HRb := Lib.hid hf
      have HK2 := Lib.hid ((HK1.out.go b).cons (k := qV _ _ _ _ _ _) (hown.mono (Nat.zero_le _)))
      clear b hown hf HC3 HK1
      clear C
      have hRbl := HRb.out.len
      have C := HK2.out.says
      simp only [sayAll, cellsSay, qB, qW, qV, Nat.reduceAdd, and_true, true_and] at C
      have HC4 := Lib.hid (add_yes ARb cRb Rb lo hi w4 (sl_own (HK2.out.rowV 0)) HRb.out.inl (by omega) HRb.out.snd HLo.out HIo.out.1 HIo.out.2)
      go_wp2_with fail
      refine HC4.out.mono ?_
      rintro e w5 ⟨⟨Rc, ARc, cRc, hf, rfl, hown⟩, b⟩
      have HRc := Lib.hid hf
      have HK3 := Lib.hid ((HK2.out.go b).cons (k := qV _ _ _ _ _ _) (hown.mono (Nat.zero_le _)))
      clear b hown hf HC4 HK2
      clear C
      have hRcl := HRc.out.len
      have C := HK3.out.says
      simp only [sayAll, cellsSay, qB, qW, qV, Nat.reduceAdd, and_true, true_and] at C
      have HC5 := Lib.hid (drop_yes ARa cRa Ra lo hi w5 (sl_own (HK3.out.rowV 2)) HRa.out.inl (by omega) HRa.out.snd HLo.out HIo.out.1 HIo.out.2)
      go_wp2_with fail
      refine HC5.out.mono ?_
      rintro e w6 ⟨⟨Rd, ARd, cRd, hf, rfl, hown⟩, b⟩
      have HRd := Lib.hid hf
      have HK4 := Lib.hid ((HK3.out.go b).cons (k := qV _ _ _ _ _ _) (hown.mono (Nat.zero_le _)))
      clear b hown hf HC5 HK3
      clear C
      have hRdl := HRd.out.len
      obtain rfl : Ra = Rc := snd_uniq HRa.out.snd HRc.out.snd (fun t => by
        rw [HRa.out.mem, HRc.out.mem, HRb.out.mem]
        by_cases hin : lo ≤ t ∧ t ≤ hi
        · exact ⟨fun _ => .inr hin, fun _ => .inr hin⟩
        · exact ⟨fun h => h.elim (fun h1 => .inl ⟨h1, hin⟩) .inr, fun h => h.elim (fun h1 => .inl h1.1) .inr⟩)
      obtain rfl : Rb = Rd := snd_uniq HRb.out.snd HRd.out.snd (fun t => by
        rw [HRb.out.mem, HRd.out.mem, HRa.out.mem]
        exact ⟨fun h => ⟨.inl h.1, h.2⟩, fun h => ⟨h.1.elim id (fun e => absurd e h.2), h.2⟩⟩)
      have C := HK4.out.says
      simp only [sayAll, cellsSay, qB, qW, qV, Nat.reduceAdd, and_true, true_and] at C
      have HK5 := Lib.hid (HK4.out.box #[.int .i64 lo, .int .i64 hi] 24)
      have hbk := (HK5.out.blk 0)
      have HPb := Lib.hid (rw_one (enc := encS) (sz := 2) (x := ((lo, hi) : Sp)) hbk rfl)
      clear hbk
      have HC6 := Lib.hid (meet_yes ARb (some ⟨w6.heap.size, 0, none⟩) cRb 1 Rb [(lo, hi)] _ (sl_own (HK5.out.rowV 3)).ps HPb.out (by simp) HRb.out.inl (fun x hx => by rw [List.mem_singleton.1 hx]; exact HIo.out) (by omega) (by simp) HRb.out.snd (snd_single.2 HLo.out))
      go_wp2_with fail
      refine HC6.out.mono ?_
      rintro e w7 ⟨⟨M, AM, cM, hf, hlen, rfl, hown⟩, b⟩
      obtain rfl : M = [] := snd_none hf.snd (fun t h => by
        have h1 := (hf.mem t).1 h
        exact ((HRb.out.mem t).1 h1.1).2 (mem_single.1 h1.2))
      have HK6 := Lib.hid (HK5.out.go b)
      clear b hf hlen hown C HC6 HK5
      have HC7 := Lib.hid (ssame_any ARa ARc cRa cRc Ra Ra w7 (sl_own (HK6.out.rowV 4)).ps (sl_own (HK6.out.rowV 2)).ps (by omega) (by omega))
      rw [decide_eq_true rfl] at HC7
      go_wp2_with fail
      refine HC7.out.mono ?_
      rintro e w8 ⟨rfl, b⟩
      have HK7 := Lib.hid (HK6.out.go b)
      clear b HC7 HK6
      have HC8 := Lib.hid (ssame_any ARb ARd cRb cRd Rb Rb w8 (sl_own (HK7.out.rowV 3)).ps (sl_own (HK7.out.rowV 1)).ps (by omega) (by omega))
      rw [decide_eq_true rfl] at HC8
      go_wp2_with fail
      refine HC8.out.mono ?_
      rintro e w9 ⟨rfl, b⟩
      have HK8 := Lib.hid (HK7.out.go b)
      clear b HC8 HK7
      go_wp2_with fail
      go_ret
      exact ⟨rfl, HK8.out.top 7⟩

end Go.Proofs.Ytfbnobhecfgahaa
