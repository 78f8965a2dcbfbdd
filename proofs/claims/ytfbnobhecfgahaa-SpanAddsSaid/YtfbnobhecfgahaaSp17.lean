/- Layer 23: the walk of SpanAdds. -/
import Derived.Test.YtfbnobhecfgahaaSp14
import Derived.Test.YtfbnobhecfgahaaSp10
import Derived.Test.YtfbnobhecfgahaaSp11
set_option linter.unusedSimpArgs false
set_option linter.unusedVariables false
namespace Go.Proofs.Ytfbnobhecfgahaa
open Go.RowKit
set_option maxRecDepth 100000

set_option maxHeartbeats 8000000 in
theorem spanAdds_walk (V : Option Addr) (c : Nat) (l : List Sp) (s1 s2 : Int) (w : World) (hV : Ps w V l) (hi : InL l) (hi1 : In s1) (hi2 : In s2) :
    Calls Try.prog 5 #[.slice V l.length c, .agg #[.int .i64 s1, .int .i64 s2]] w fun e w' => e = .returned (.bool true) ∧ Below w.heap.size w w' := by
  by_cases hlen : 40 < l.length
  · have hd : decide ((40 : Int) < l.length) = true := decide_eq_true (by omega)
    clear hV hi
    go_enter Try.func5, Try.ntmps5
    go_wp2_with fail
    refine (sknown_any _).mono ?_
    rintro e w1 ⟨rfl, b⟩
    have HB := Lib.hid ((below_alloc w _).trans (b.mono (below_alloc w _).size))
    clear b
    go_wp2_with fail
    go_ret
    exact ⟨rfl, HB.out⟩
  · have hd : decide ((40 : Int) < l.length) = false := decide_eq_false (by omega)
    have hl40 : l.length ≤ 40 := by omega
    have HV := Lib.hid hV
    have HI := Lib.hid (And.intro hi (And.intro hi1 hi2))
    clear hV hi hi1 hi2 hlen
    by_cases hs : Snd l ∧ s1 ≤ s2
    · have HS := Lib.hid hs
      clear hs
      have HK0 := Lib.hid (Qs.zero w)
      have HK1 := Lib.hid (HK0.out.box #[.int .i64 s1, .int .i64 s2] 24)
      go_enter Try.func5, Try.ntmps5
      go_wp2_with fail
      refine (sknown_any _).mono ?_
      rintro e w1 ⟨rfl, b⟩
      have HK2 := Lib.hid (HK1.out.go b)
      clear b HK1
      have HC1 := Lib.hid (slent_any V c l w1 (HV.out.below (HK2.out.top 1) (Nat.le_refl _)) (by omega))
      go_wp2_with fail
      refine HC1.out.mono ?_
      rintro e w2 ⟨Aown, cown, rfl, hown, b⟩
      have HK3 := Lib.hid ((HK2.out.go b).cons (k := qV _ _ _ _ _ _) (hown.mono (Nat.zero_le _)))
      clear b hown  HC1 HK2
      have C := HK3.out.says
      simp only [sayAll, cellsSay, qB, qW, qV, Nat.reduceAdd, and_true, true_and] at C
      have HC2 := Lib.hid (add_yes Aown cown l s1 s2 w2 (sl_own (HK3.out.rowV 0)) HI.out.1 (by omega) HS.out.1 HS.out.2 HI.out.2.1 HI.out.2.2)
      go_wp2_with fail
      refine HC2.out.mono ?_
      rintro e w3 ⟨⟨Ra, ARa, cRa, hf, rfl, hown⟩, b⟩
      have HRa := Lib.hid hf
      have HK4 := Lib.hid ((HK3.out.go b).cons (k := qV _ _ _ _ _ _) (hown.mono (Nat.zero_le _)))
      clear b hown hf HC2 HK3
      clear C
      have C := HK4.out.says
      simp only [sayAll, cellsSay, qB, qW, qV, Nat.reduceAdd, and_true, true_and] at C
      have HC3 := Lib.hid (radd_yes V c l s1 s2 w3 (HV.out.below (HK4.out.top 3) (Nat.le_refl _)) HI.out.1 (by omega) HS.out.1 HS.out.2 HI.out.2.1 HI.out.2.2)
      go_wp2_with fail
      refine HC3.out.mono ?_
      rintro e w4 ⟨⟨Rb, ARb, cRb, hf, rfl, hown⟩, b⟩
      have HRb := Lib.hid hf
      have HK5 := Lib.hid ((HK4.out.go b).cons (k := qV _ _ _ _ _ _) (hown.mono (Nat.zero_le _)))
      clear b hown hf HC3 HK4
      clear C
      have C := HK5.out.says
      simp only [sayAll, cellsSay, qB, qW, qV, Nat.reduceAdd, and_true, true_and] at C
      have HC4 := Lib.hid (drop_yes Aown cown l s1 s2 w4 (sl_own (HK5.out.rowV 2)) HI.out.1 (by omega) HS.out.1 HS.out.2 HI.out.2.1 HI.out.2.2)
      go_wp2_with fail
      refine HC4.out.mono ?_
      rintro e w5 ⟨⟨Rc, ARc, cRc, hf, rfl, hown⟩, b⟩
      have HRc := Lib.hid hf
      have HK6 := Lib.hid ((HK5.out.go b).cons (k := qV _ _ _ _ _ _) (hown.mono (Nat.zero_le _)))
      clear b hown hf HC4 HK5
      clear C
      have C := HK6.out.says
      simp only [sayAll, cellsSay, qB, qW, qV, Nat.reduceAdd, and_true, true_and] at C
      have HC5 := Lib.hid (rdrop_yes V c l s1 s2 w5 (HV.out.below (HK6.out.top 5) (Nat.le_refl _)) HI.out.1 (by omega) HS.out.1 HS.out.2 HI.out.2.1 HI.out.2.2)
      go_wp2_with fail
      refine HC5.out.mono ?_
      rintro e w6 ⟨⟨Rd, ARd, cRd, hf, rfl, hown⟩, b⟩
      have HRd := Lib.hid hf
      have HK7 := Lib.hid ((HK6.out.go b).cons (k := qV _ _ _ _ _ _) (hown.mono (Nat.zero_le _)))
      clear b hown hf HC5 HK6
      clear C
      obtain rfl : Ra = Rb := HRa.out.uniq HRb.out
      obtain rfl : Rc = Rd := snd_uniq HRc.out.snd HRd.out.snd (fun t => by rw [HRc.out.mem, HRd.out.mem, List.take_length])
      have hla := HRa.out.len
      have hlc := HRc.out.len
      have HC6 := Lib.hid (ssame_any ARa ARb cRa cRb Ra Ra w6 (sl_own (HK7.out.rowV 3)).ps (sl_own (HK7.out.rowV 2)).ps (by omega) (by omega))
      rw [decide_eq_true rfl] at HC6
      go_wp2_with fail
      refine HC6.out.mono ?_
      rintro e w7 ⟨rfl, b⟩
      have HK8 := Lib.hid (HK7.out.go b)
      clear b HC6 HK7
      have HC7 := Lib.hid (ssame_any ARc ARd cRc cRd Rc Rc w7 (sl_own (HK8.out.rowV 1)).ps (sl_own (HK8.out.rowV 0)).ps (by omega) (by omega))
      rw [decide_eq_true rfl] at HC7
      go_wp2_with fail
      refine HC7.out.mono ?_
      rintro e w8 ⟨rfl, b⟩
      have HK9 := Lib.hid (HK8.out.go b)
      clear b HC7 HK8
      have HC8 := Lib.hid (ssame_any Aown V cown c l l w8 (sl_own (HK9.out.rowV 4)).ps (HV.out.below (HK9.out.top 6) (Nat.le_refl _)) (by omega) (by omega))
      rw [decide_eq_true rfl] at HC8
      go_wp2_with fail
      refine HC8.out.mono ?_
      rintro e w9 ⟨rfl, b⟩
      have HK10 := Lib.hid (HK9.out.go b)
      clear b HC8 HK9
      go_wp2_with fail
      go_ret
      exact ⟨rfl, HK10.out.top 6⟩
    · have HS : Hid (s2 < s1 ∨ ¬ Snd l) := Lib.hid (by
        rcases Int.lt_or_le s2 s1 with h | h
        · exact .inl h
        · exact .inr fun e => hs ⟨e, h⟩)
      clear hs
      have HK0 := Lib.hid (Qs.zero w)
      have HK1 := Lib.hid (HK0.out.box #[.int .i64 s1, .int .i64 s2] 24)
      go_enter Try.func5, Try.ntmps5
      go_wp2_with fail
      refine (sknown_any _).mono ?_
      rintro e w1 ⟨rfl, b⟩
      have HK2 := Lib.hid (HK1.out.go b)
      clear b HK1
      have HC1 := Lib.hid (slent_any V c l w1 (HV.out.below (HK2.out.top 1) (Nat.le_refl _)) (by omega))
      go_wp2_with fail
      refine HC1.out.mono ?_
      rintro e w2 ⟨Aown, cown, rfl, hown, b⟩
      have HK3 := Lib.hid ((HK2.out.go b).cons (k := qV _ _ _ _ _ _) (hown.mono (Nat.zero_le _)))
      clear b hown  HC1 HK2
      have C := HK3.out.says
      simp only [sayAll, cellsSay, qB, qW, qV, Nat.reduceAdd, and_true, true_and] at C
      have HC2 := Lib.hid (add_no Aown cown l s1 s2 w2 (sl_own (HK3.out.rowV 0)).ps HI.out.1 (by omega) HS.out)
      go_wp2_with fail
      refine HC2.out.mono ?_
      rintro e w3 ⟨rfl, b⟩
      have HK4 := Lib.hid (HK3.out.go b)
      clear b HC2 HK3
      clear C
      have C := HK4.out.says
      simp only [sayAll, cellsSay, qB, qW, qV, Nat.reduceAdd, and_true, true_and] at C
      have HC3 := Lib.hid (radd_no V c l s1 s2 w3 (HV.out.below (HK4.out.top 2) (Nat.le_refl _)) HI.out.1 (by omega) HS.out)
      go_wp2_with fail
      refine HC3.out.mono ?_
      rintro e w4 ⟨rfl, b⟩
      have HK5 := Lib.hid (HK4.out.go b)
      clear b HC3 HK4
      clear C
      have C := HK5.out.says
      simp only [sayAll, cellsSay, qB, qW, qV, Nat.reduceAdd, and_true, true_and] at C
      have HC4 := Lib.hid (drop_no Aown cown l s1 s2 w4 (sl_own (HK5.out.rowV 0)).ps HI.out.1 (by omega) HS.out)
      go_wp2_with fail
      refine HC4.out.mono ?_
      rintro e w5 ⟨rfl, b⟩
      have HK6 := Lib.hid (HK5.out.go b)
      clear b HC4 HK5
      clear C
      have C := HK6.out.says
      simp only [sayAll, cellsSay, qB, qW, qV, Nat.reduceAdd, and_true, true_and] at C
      have HC5 := Lib.hid (rdrop_no V c l s1 s2 w5 (HV.out.below (HK6.out.top 2) (Nat.le_refl _)) HI.out.1 (by omega) HS.out)
      go_wp2_with fail
      refine HC5.out.mono ?_
      rintro e w6 ⟨rfl, b⟩
      have HK7 := Lib.hid (HK6.out.go b)
      clear b HC5 HK6
      clear C
      have HC6 := Lib.hid (ssame_any none none 0 0 [] [] w6 (Rw.nil _ _ _ _) (Rw.nil _ _ _ _) (by simp) (by simp))
      rw [decide_eq_true rfl] at HC6
      go_wp2_with fail
      refine HC6.out.mono ?_
      rintro e w7 ⟨rfl, b⟩
      have HK8 := Lib.hid (HK7.out.go b)
      clear b HC6 HK7
      have HC7 := Lib.hid (ssame_any none none 0 0 [] [] w7 (Rw.nil _ _ _ _) (Rw.nil _ _ _ _) (by simp) (by simp))
      rw [decide_eq_true rfl] at HC7
      go_wp2_with fail
      refine HC7.out.mono ?_
      rintro e w8 ⟨rfl, b⟩
      have HK9 := Lib.hid (HK8.out.go b)
      clear b HC7 HK8
      have HC8 := Lib.hid (ssame_any Aown V cown c l l w8 (sl_own (HK9.out.rowV 0)).ps (HV.out.below (HK9.out.top 2) (Nat.le_refl _)) (by omega) (by omega))
      rw [decide_eq_true rfl] at HC8
      go_wp2_with fail
      refine HC8.out.mono ?_
      rintro e w9 ⟨rfl, b⟩
      have HK10 := Lib.hid (HK9.out.go b)
      clear b HC8 HK9
      go_wp2_with fail
      go_ret
      exact ⟨rfl, HK10.out.top 2⟩

end Go.Proofs.Ytfbnobhecfgahaa
