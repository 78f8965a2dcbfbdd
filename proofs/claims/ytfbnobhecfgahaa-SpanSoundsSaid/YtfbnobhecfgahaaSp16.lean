/- Layer 23: the walk of SpanSounds. -/
import Derived.Test.YtfbnobhecfgahaaSp14
import Derived.Test.YtfbnobhecfgahaaSp7
set_option linter.unusedSimpArgs false
set_option linter.unusedVariables false
namespace Go.Proofs.Ytfbnobhecfgahaa
open Go.RowKit
set_option maxRecDepth 100000

set_option maxHeartbeats 4000000 in
theorem spanSounds_walk (V : Option Addr) (c : Nat) (l : List Sp) (t : Int) (w : World) (hV : Ps w V l) (hi : InL l) :
    Calls Try.prog 4 #[.slice V l.length c, .int .i64 t] w fun e w' => e = .returned (.bool true) ∧ Below w.heap.size w w' := by
  by_cases hlen : 40 < l.length
  · have hd : decide ((40 : Int) < l.length) = true := decide_eq_true (by omega)
    clear hV hi
    go_enter Try.func4, Try.ntmps4
    go_wp2_with fail
    refine (sknown_any _).mono ?_
    rintro e w1 ⟨rfl, b⟩
    have HB := Lib.hid (b)
    clear b
    go_wp2_with fail
    go_ret
    exact ⟨rfl, HB.out⟩
  · have hd : decide ((40 : Int) < l.length) = false := decide_eq_false (by omega)
    have hl40 : l.length ≤ 40 := by omega
    have HV := Lib.hid hV
    have HI := Lib.hid hi
    clear hV hi hlen
    go_enter Try.func4, Try.ntmps4
    have HK0 := Lib.hid (Qs.zero w)
    go_wp2_with fail
    refine (sknown_any _).mono ?_
    rintro e w1 ⟨rfl, b⟩
    have HK1 := Lib.hid (HK0.out.go b)
    clear b HK0
    have HC1 := Lib.hid (slent_any V c l w1 (HV.out.below (HK1.out.top 0) (Nat.le_refl _)) (by omega))
    go_wp2_with fail
    refine HC1.out.mono ?_
    rintro e w2 ⟨Aown, cown, rfl, hown, b⟩
    have HK2 := Lib.hid ((HK1.out.go b).cons (k := qV _ _ _ _ _ _) (hown.mono (Nat.zero_le _)))
    clear b hown  HC1 HK1
    have HC2 := Lib.hid (count_any Aown cown l w2 (sl_own (HK2.out.rowV 0)).ps HI.out (by omega))
    go_wp2_with fail
    refine HC2.out.mono ?_
    rintro e w3 ⟨rfl, b⟩
    have HK3 := Lib.hid (HK2.out.go b)
    clear b HC2 HK2
    have HC3 := Lib.hid (rcount_any V c l w3 (HV.out.below (HK3.out.top 1) (Nat.le_refl _)) HI.out (by omega))
    go_wp2_with fail
    refine HC3.out.mono ?_
    rintro e w4 ⟨rfl, b⟩
    have HK4 := Lib.hid (HK3.out.go b)
    clear b HC3 HK3
    have HC4 := Lib.hid (sound_any Aown cown l w4 (sl_own (HK4.out.rowV 0)).ps HI.out (by omega))
    go_wp2_with fail
    refine HC4.out.mono ?_
    rintro e w5 ⟨rfl, b⟩
    have HK5 := Lib.hid (HK4.out.go b)
    clear b HC4 HK4
    have HC5 := Lib.hid (rsound_any V c l w5 (HV.out.below (HK5.out.top 1) (Nat.le_refl _)) HI.out (by omega))
    go_wp2_with fail
    refine HC5.out.mono ?_
    rintro e w6 ⟨rfl, b⟩
    have HK6 := Lib.hid (HK5.out.go b)
    clear b HC5 HK5
    have HC6 := Lib.hid (has_any t Aown cown l w6 (sl_own (HK6.out.rowV 0)).ps (by omega))
    go_wp2_with fail
    refine HC6.out.mono ?_
    rintro e w7 ⟨rfl, b⟩
    have HK7 := Lib.hid (HK6.out.go b)
    clear b HC6 HK6
    have HC7 := Lib.hid (rhas_any t V c l w7 (HV.out.below (HK7.out.top 1) (Nat.le_refl _)) (by omega))
    go_wp2_with fail
    refine HC7.out.mono ?_
    rintro e w8 ⟨rfl, b⟩
    have HK8 := Lib.hid (HK7.out.go b)
    clear b HC7 HK7
    have HC8 := Lib.hid (ssame_any Aown V cown c l l w8 (sl_own (HK8.out.rowV 0)).ps (HV.out.below (HK8.out.top 1) (Nat.le_refl _)) (by omega) (by omega))
    rw [decide_eq_true rfl] at HC8
    go_wp2_with fail
    refine HC8.out.mono ?_
    rintro e w9 ⟨rfl, b⟩
    have HK9 := Lib.hid (HK8.out.go b)
    clear b HC8 HK8
    go_wp2_with fail
    go_ret
    exact ⟨rfl, HK9.out.top 1⟩

end Go.Proofs.Ytfbnobhecfgahaa
