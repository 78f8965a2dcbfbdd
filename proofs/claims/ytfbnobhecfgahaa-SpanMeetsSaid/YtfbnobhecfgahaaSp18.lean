/- Layer 23: the walk of SpanMeets. -/
import Derived.Test.YtfbnobhecfgahaaSp14
import Derived.Test.YtfbnobhecfgahaaSp13
set_option linter.unusedSimpArgs false
set_option linter.unusedVariables false
namespace Go.Proofs.Ytfbnobhecfgahaa
open Go.RowKit
set_option maxRecDepth 100000

set_option maxHeartbeats 8000000 in
theorem spanMeets_walk (V U : Option Addr) (c d : Nat) (a b : List Sp) (w : World) (hV : Ps w V a) (hU : Ps w U b) (hia : InL a) (hib : InL b) :
    Calls Try.prog 6 #[.slice V a.length c, .slice U b.length d] w fun e w' => e = .returned (.bool true) ∧ Below w.heap.size w w' := by
  by_cases hlen : 30 < a.length
  · have hd : decide ((30 : Int) < a.length) = true := decide_eq_true (by omega)
    clear hV hia hU hib
    go_enter Try.func6, Try.ntmps6
    go_wp2_with fail
    refine (sknown_any _).mono ?_
    rintro e w1 ⟨rfl, b⟩
    have HB := Lib.hid (b)
    clear b
    go_wp2_with fail
    go_ret
    exact ⟨rfl, HB.out⟩
  · have hd : decide ((30 : Int) < a.length) = false := decide_eq_false (by omega)
    by_cases hlen2 : 30 < b.length
    · have hd2 : decide ((30 : Int) < b.length) = true := decide_eq_true (by omega)
      clear hV hia hU hib
      go_enter Try.func6, Try.ntmps6
      go_wp2_with fail
      refine (sknown_any _).mono ?_
      rintro e w1 ⟨rfl, b⟩
      have HB := Lib.hid (b)
      clear b
      go_wp2_with fail
      go_ret
      exact ⟨rfl, HB.out⟩
    · have hd2 : decide ((30 : Int) < b.length) = false := decide_eq_false (by omega)
      have hl1 : a.length ≤ 30 := by omega
      have hl2 : b.length ≤ 30 := by omega
      have HV := Lib.hid hV
      have HU := Lib.hid hU
      have HI := Lib.hid (And.intro hia hib)
      clear hV hU hia hib hlen hlen2
      by_cases hs : Snd a ∧ Snd b
      · have HS := Lib.hid hs
        clear hs
        have HK0 := Lib.hid (Qs.zero w)
        go_enter Try.func6, Try.ntmps6
        go_wp2_with fail
        refine (sknown_any _).mono ?_
        rintro e w1 ⟨rfl, b⟩
        have HK1 := Lib.hid (HK0.out.go b)
        clear b HK0
        have HC1 := Lib.hid (slent_any V c a w1 (HV.out.below (HK1.out.top 0) (Nat.le_refl _)) (by omega))
        go_wp2_with fail
        refine HC1.out.mono ?_
        rintro e w2 ⟨Ax, cx, rfl, hown, b⟩
        have HK2 := Lib.hid ((HK1.out.go b).cons (k := qV _ _ _ _ _ _) (hown.mono (Nat.zero_le _)))
        clear b hown  HC1 HK1
        have HC2 := Lib.hid (slent_any U d b w2 (HU.out.below (HK2.out.top 1) (Nat.le_refl _)) (by omega))
        go_wp2_with fail
        refine HC2.out.mono ?_
        rintro e w3 ⟨Ay, cy, rfl, hown, b⟩
        have HK3 := Lib.hid ((HK2.out.go b).cons (k := qV _ _ _ _ _ _) (hown.mono (Nat.zero_le _)))
        clear b hown  HC2 HK2
        have HC3 := Lib.hid (meet_yes Ax Ay cx cy a b w3 (sl_own (HK3.out.rowV 1)).ps (sl_own (HK3.out.rowV 0)).ps (sl_own (HK3.out.rowV 0)).len HI.out.1 HI.out.2 (by omega) (by omega) HS.out.1 HS.out.2)
        go_wp2_with fail
        refine HC3.out.mono ?_
        rintro e w4 ⟨⟨Rc, ARc, cRc, hf, hlen, rfl, hown⟩, b⟩
        have HRcl := Lib.hid hlen
        have HRc := Lib.hid hf
        have HK4 := Lib.hid ((HK3.out.go b).cons (k := qV _ _ _ _ _ _) (hown.mono (Nat.zero_le _)))
        clear b hown hf hlen HC3 HK3
        have HC4 := Lib.hid (rmeet_yes V U c d a b w4 (HV.out.below (HK4.out.top 3) (Nat.le_refl _)) (HU.out.below (HK4.out.top 3) (Nat.le_refl _)) HI.out.1 HI.out.2 (by omega) (by omega) HS.out.1 HS.out.2)
        go_wp2_with fail
        refine HC4.out.mono ?_
        rintro e w5 ⟨⟨Rd, ARd, cRd, hf, hlen, rfl, hown⟩, b⟩
        have HRdl := Lib.hid hlen
        have HRd := Lib.hid hf
        have HK5 := Lib.hid ((HK4.out.go b).cons (k := qV _ _ _ _ _ _) (hown.mono (Nat.zero_le _)))
        clear b hown hf hlen HC4 HK4
        obtain rfl : Rc = Rd := HRc.out.uniq HRd.out
        have hlc := HRcl.out
        have HC5 := Lib.hid (ssame_any ARc ARd cRc cRd Rc Rc w5 (sl_own (HK5.out.rowV 1)).ps (sl_own (HK5.out.rowV 0)).ps (by omega) (by omega))
        rw [decide_eq_true rfl] at HC5
        go_wp2_with fail
        refine HC5.out.mono ?_
        rintro e w6 ⟨rfl, b⟩
        have HK6 := Lib.hid (HK5.out.go b)
        clear b HC5 HK5
        have HC6 := Lib.hid (ssame_any Ax V cx c a a w6 (sl_own (HK6.out.rowV 3)).ps (HV.out.below (HK6.out.top 4) (Nat.le_refl _)) (by omega) (by omega))
        rw [decide_eq_true rfl] at HC6
        go_wp2_with fail
        refine HC6.out.mono ?_
        rintro e w7 ⟨rfl, b⟩
        have HK7 := Lib.hid (HK6.out.go b)
        clear b HC6 HK6
        have HC7 := Lib.hid (ssame_any Ay U cy d b b w7 (sl_own (HK7.out.rowV 2)).ps (HU.out.below (HK7.out.top 4) (Nat.le_refl _)) (by omega) (by omega))
        rw [decide_eq_true rfl] at HC7
        go_wp2_with fail
        refine HC7.out.mono ?_
        rintro e w8 ⟨rfl, b⟩
        have HK8 := Lib.hid (HK7.out.go b)
        clear b HC7 HK7
        go_wp2_with fail
        go_ret
        exact ⟨rfl, HK8.out.top 4⟩
      · have HS := Lib.hid hs
        clear hs
        have HK0 := Lib.hid (Qs.zero w)
        go_enter Try.func6, Try.ntmps6
        go_wp2_with fail
        refine (sknown_any _).mono ?_
        rintro e w1 ⟨rfl, b⟩
        have HK1 := Lib.hid (HK0.out.go b)
        clear b HK0
        have HC1 := Lib.hid (slent_any V c a w1 (HV.out.below (HK1.out.top 0) (Nat.le_refl _)) (by omega))
        go_wp2_with fail
        refine HC1.out.mono ?_
        rintro e w2 ⟨Ax, cx, rfl, hown, b⟩
        have HK2 := Lib.hid ((HK1.out.go b).cons (k := qV _ _ _ _ _ _) (hown.mono (Nat.zero_le _)))
        clear b hown  HC1 HK1
        have HC2 := Lib.hid (slent_any U d b w2 (HU.out.below (HK2.out.top 1) (Nat.le_refl _)) (by omega))
        go_wp2_with fail
        refine HC2.out.mono ?_
        rintro e w3 ⟨Ay, cy, rfl, hown, b⟩
        have HK3 := Lib.hid ((HK2.out.go b).cons (k := qV _ _ _ _ _ _) (hown.mono (Nat.zero_le _)))
        clear b hown  HC2 HK2
        have HC3 := Lib.hid (meet_no Ax Ay cx cy a b w3 (sl_own (HK3.out.rowV 1)).ps (sl_own (HK3.out.rowV 0)).ps HI.out.1 HI.out.2 (by omega) (by omega) HS.out)
        go_wp2_with fail
        refine HC3.out.mono ?_
        rintro e w4 ⟨rfl, b⟩
        have HK4 := Lib.hid (HK3.out.go b)
        clear b HC3 HK3
        have HC4 := Lib.hid (rmeet_no V U c d a b w4 (HV.out.below (HK4.out.top 2) (Nat.le_refl _)) (HU.out.below (HK4.out.top 2) (Nat.le_refl _)) HI.out.1 HI.out.2 (by omega) (by omega) HS.out)
        go_wp2_with fail
        refine HC4.out.mono ?_
        rintro e w5 ⟨rfl, b⟩
        have HK5 := Lib.hid (HK4.out.go b)
        clear b HC4 HK4
        have HC5 := Lib.hid (ssame_any none none 0 0 [] [] w5 (Rw.nil _ _ _ _) (Rw.nil _ _ _ _) (by simp) (by simp))
        rw [decide_eq_true rfl] at HC5
        go_wp2_with fail
        refine HC5.out.mono ?_
        rintro e w6 ⟨rfl, b⟩
        have HK6 := Lib.hid (HK5.out.go b)
        clear b HC5 HK5
        have HC6 := Lib.hid (ssame_any Ax V cx c a a w6 (sl_own (HK6.out.rowV 1)).ps (HV.out.below (HK6.out.top 2) (Nat.le_refl _)) (by omega) (by omega))
        rw [decide_eq_true rfl] at HC6
        go_wp2_with fail
        refine HC6.out.mono ?_
        rintro e w7 ⟨rfl, b⟩
        have HK7 := Lib.hid (HK6.out.go b)
        clear b HC6 HK6
        have HC7 := Lib.hid (ssame_any Ay U cy d b b w7 (sl_own (HK7.out.rowV 0)).ps (HU.out.below (HK7.out.top 2) (Nat.le_refl _)) (by omega) (by omega))
        rw [decide_eq_true rfl] at HC7
        go_wp2_with fail
        refine HC7.out.mono ?_
        rintro e w8 ⟨rfl, b⟩
        have HK8 := Lib.hid (HK7.out.go b)
        clear b HC7 HK7
        go_wp2_with fail
        go_ret
        exact ⟨rfl, HK8.out.top 2⟩

end Go.Proofs.Ytfbnobhecfgahaa
