/- Layer 23: the walk of SpanCounts. -/
import Derived.Test.YtfbnobhecfgahaaSp14
import Derived.Test.YtfbnobhecfgahaaSp15
import Derived.Test.YtfbnobhecfgahaaSp13
import Derived.Test.YtfbnobhecfgahaaSp7
set_option linter.unusedSimpArgs false
set_option linter.unusedVariables false
namespace Go.Proofs.Ytfbnobhecfgahaa
open Go.RowKit
set_option maxRecDepth 100000

theorem hasB_congr {R : List Sp} {t : Int} {b : Bool} (h : Mem t R ↔ b = true) : hasB R t = b := by
  unfold hasB; rw [Bool.eq_iff_iff, decide_eq_true_iff]; exact h
theorem hasB_iff {R : List Sp} {t : Int} : Mem t R ↔ hasB R t = true := by unfold hasB; rw [decide_eq_true_iff]
theorem cnt_mod {X Y M Z : List Sp} (hx : Snd X) (hy : Snd Y) (hm : Snd M) (hz : Snd Z) (ix : InL X) (iy : InL Y) (im : InL M) (iz : InL Z) (em : ∀ t, Mem t M ↔ Mem t X ∧ Mem t Y) (ez : ∀ t, Mem t Z ↔ Mem t X ∨ Mem t Y) :
    IntKind.u64.wrap (((cntR X).1 : Int) + ((cntR Y).1 : Int)) = IntKind.u64.wrap (((cntR M).1 : Int) + ((cntR Z).1 : Int)) := by
  have h := cnt_both hx hy hm hz (-9223372036854775808) 18446744073709551616 (fun x h => by have := ix.bd x h; omega) (fun x h => by have := iy.bd x h; omega) (fun x h => by have := im.bd x h; omega) (fun x h => by have := iz.bd x h; omega) em ez
  rw [cntR_mod hx ix.bd, cntR_mod hy iy.bd, cntR_mod hm im.bd, cntR_mod hz iz.bd]
  simp only [IntKind.wrap_u64]
  generalize cntN X = a at *
  generalize cntN Y = b at *
  generalize cntN M = c at *
  generalize cntN Z = d at *
  omega
set_option maxHeartbeats 16000000 in
theorem spanCounts_walk (V U : Option Addr) (c d : Nat) (a b : List Sp) (t : Int) (w : World) (hV : Ps w V a) (hU : Ps w U b) (hia : InL a) (hib : InL b) :
    Calls Try.prog 9 #[.slice V a.length c, .slice U b.length d, .int .i64 t] w fun e w' => e = .returned (.bool true) ∧ Below w.heap.size w w' := by
  by_cases hlen : 15 < a.length
  · have hd : decide ((15 : Int) < a.length) = true := decide_eq_true (by omega)
    clear hV hia hU hib
    go_enter Try.func9, Try.ntmps9
    go_wp2_with fail
    refine (sknown_any _).mono ?_
    rintro e w1 ⟨rfl, b⟩
    have HB := Lib.hid (b)
    clear b
    go_wp2_with fail
    go_ret
    exact ⟨rfl, HB.out⟩
  · have hd : decide ((15 : Int) < a.length) = false := decide_eq_false (by omega)
    by_cases hlen2 : 15 < b.length
    · have hd2 : decide ((15 : Int) < b.length) = true := decide_eq_true (by omega)
      clear hV hia hU hib
      go_enter Try.func9, Try.ntmps9
      go_wp2_with fail
      refine (sknown_any _).mono ?_
      rintro e w1 ⟨rfl, b⟩
      have HB := Lib.hid (b)
      clear b
      go_wp2_with fail
      go_ret
      exact ⟨rfl, HB.out⟩
    · have hd2 : decide ((15 : Int) < b.length) = false := decide_eq_false (by omega)
      have hl1 : a.length ≤ 15 := by omega
      have hl2 : b.length ≤ 15 := by omega
      have HV := Lib.hid hV
      have HU := Lib.hid hU
      have HI := Lib.hid (And.intro hia hib)
      clear hV hU hia hib hlen hlen2
      have HK0 := Lib.hid (Qs.zero w)
      go_enter Try.func9, Try.ntmps9
      go_wp2_with fail
      refine (sknown_any _).mono ?_
      rintro e w1 ⟨rfl, b⟩
      have HK1 := Lib.hid (HK0.out.go b)
      clear b HK0
      have HC1 := Lib.hid (set_any V c a w1 (HV.out.below (HK1.out.top 0) (Nat.le_refl _)) HI.out.1 (by omega))
      go_wp2_with fail
      refine HC1.out.mono ?_
      rintro e w2 ⟨⟨X, AX, cX, hf, rfl, hown⟩, b⟩
      have HX := Lib.hid hf
      have HK2 := Lib.hid ((HK1.out.go b).cons (k := qV _ _ _ _ _ _) (hown.mono (Nat.zero_le _)))
      clear b hown hf HC1 HK1
      have HC2 := Lib.hid (set_any U d b w2 (HU.out.below (HK2.out.top 1) (Nat.le_refl _)) HI.out.2 (by omega))
      go_wp2_with fail
      refine HC2.out.mono ?_
      rintro e w3 ⟨⟨Y, AY, cY, hf, rfl, hown⟩, b⟩
      have HY := Lib.hid hf
      have HK3 := Lib.hid ((HK2.out.go b).cons (k := qV _ _ _ _ _ _) (hown.mono (Nat.zero_le _)))
      clear b hown hf HC2 HK2
      have hXl := HX.out.len
      have hYl := HY.out.len
      have HC3 := Lib.hid (meet_yes AX AY cX cY X Y w3 (sl_own (HK3.out.rowV 1)).ps (sl_own (HK3.out.rowV 0)).ps (sl_own (HK3.out.rowV 0)).len HX.out.inl HY.out.inl (by omega) (by omega) HX.out.snd HY.out.snd)
      go_wp2_with fail
      refine HC3.out.mono ?_
      rintro e w4 ⟨⟨M, AM, cM, hf, hlen, rfl, hown⟩, b⟩
      have HMl := Lib.hid hlen
      have HM := Lib.hid hf
      have HK4 := Lib.hid ((HK3.out.go b).cons (k := qV _ _ _ _ _ _) (hown.mono (Nat.zero_le _)))
      clear b hown hf hlen HC3 HK3
      have hMl := HMl.out
      go_wp2_with fail
      go_loopw [11, 12] (fun s11 s12 wr => ∃ (k : Nat) (Z : List Sp) (AZ : Option Addr) (cZ : Nat), k ≤ Y.length ∧ s12 = .int .i64 k ∧ s11 = .slice AZ Z.length cZ ∧ Hid (Snd Z ∧ InL Z ∧ Z.length ≤ X.length + k ∧ ∀ t, Mem t Z ↔ Mem t X ∨ Mem t (Y.take k)) ∧ Hid (OwnR wr 0 24 encS 2 (.slice AZ Z.length cZ) Z) ∧ Hid (Qs wr [qV 0 24 encS 2 (.slice AM M.length cM) M, qV 0 24 encS 2 (.slice AY Y.length cY) Y, qV 0 24 encS 2 (.slice AX X.length cX) X, qW w w.heap.size (Nat.le_refl _)]))
        (fun _ s12 _ => Y.length - (intOf s12).toNat)
      case atStart => exact ⟨0, X, AX, cX, Nat.zero_le _, rfl, rfl, Lib.hid ⟨HX.out.snd, HX.out.inl, by omega, fun t => by simp [mem_nil]⟩, Lib.hid (HK4.out.rowV 2), HK4⟩
      case round =>
        obtain ⟨k, Z, AZ, cZ, hk, rfl, rfl, HZ, HOZ, HQ⟩ := hrel
        have hZl := HZ.out.2.2.1
        by_cases hlt : k < Y.length
        · have hYk := List.getElem?_eq_getElem hlt
          have hyi := HY.out.inl Y[k] (List.getElem_mem hlt)
          have hyy := HY.out.snd.1 Y[k] (List.getElem_mem hlt)
          obtain ⟨p, o, rfl, hc⟩ := ps_at (sl_own (HQ.out.rowV 1)).ps k Y[k] (List.getElem?_eq_getElem hlt)
          obtain ⟨y, hy⟩ : ∃ y, y = Y[k] := ⟨_, rfl⟩
          rw [← hy] at hYk hyi hyy hc
          have hms := fun t => mem_snoc (t := t) hYk
          have HYk := Lib.hid hYk
          obtain ⟨yf, yt⟩ := y
          dsimp only at hyi hyy hc hms
          have C := hc wr (Below.refl _ _)
          have HMs := Lib.hid hms
          have HC := Lib.hid (add_yes AZ cZ Z yf yt wr (sl_own HOZ.out) HZ.out.2.1 (by omega) HZ.out.1 hyy hyi.1 hyi.2)
          clear hyi hyy hc hms hy hYk
          have hkl : (k : Int) < Y.length := by omega
          go_wp2_with fail
          refine HC.out.mono ?_
          rintro e w5 ⟨⟨R, AR, cR, hR, rfl, hown⟩, b5⟩
          have HR : Hid (Snd R ∧ InL R ∧ R.length ≤ X.length + (k + 1) ∧ ∀ t, Mem t R ↔ Mem t X ∨ Mem t (Y.take (k + 1))) := Lib.hid ⟨hR.snd, hR.inl, by have := hR.len; omega, fun t => by
            rw [hR.mem, HZ.out.2.2.2, HMs.out]; exact or_assoc⟩
          have HQ5 := Lib.hid (HQ.out.go b5)
          have HO5 := Lib.hid (hown.mono (Nat.zero_le _))
          clear hR hown b5 HC C
          go_wp2_with fail
          go_roundw
          case measure => simp [intOf]; omega
          case rel => exact ⟨k + 1, R, AR, cR, by omega, by go_num, rfl, HR, HO5, HQ5⟩
        · obtain rfl : k = Y.length := by omega
          have hZ := HZ.out
          rw [List.take_length] at hZ
          have HZZ := Lib.hid hZ
          have HW := Lib.hid (cnt_mod HX.out.snd HY.out.snd HM.out.snd hZ.1 HX.out.inl HY.out.inl HM.out.inl hZ.2.1 HM.out.mem hZ.2.2.2)
          clear hZ HZ
          have HK0 := Lib.hid (HQ.out.cons (k := qV _ _ _ _ _ _) HOZ.out)
          clear HQ HOZ
          obtain ⟨nX, hnX⟩ : ∃ n : Nat, n = (cntR X).1 := ⟨_, rfl⟩
          obtain ⟨qX, hqX⟩ : ∃ q : Bool, q = (cntR X).2 := ⟨_, rfl⟩
          have HNX := Lib.hid (And.intro hnX hqX)
          clear hnX hqX
          have HC0 := Lib.hid (count_any AX cX X wr (sl_own (HK0.out.rowV 3)).ps HX.out.inl (by omega))
          rw [← HNX.out.1, ← HNX.out.2] at HC0
          go_wp2_with fail
          refine HC0.out.mono ?_
          rintro e v1 ⟨rfl, b⟩
          have HK1 := Lib.hid (HK0.out.go b)
          clear b HC0 HK0
          obtain ⟨nY, hnY⟩ : ∃ n : Nat, n = (cntR Y).1 := ⟨_, rfl⟩
          obtain ⟨qY, hqY⟩ : ∃ q : Bool, q = (cntR Y).2 := ⟨_, rfl⟩
          have HNY := Lib.hid (And.intro hnY hqY)
          clear hnY hqY
          have HC1 := Lib.hid (count_any AY cY Y v1 (sl_own (HK1.out.rowV 2)).ps HY.out.inl (by omega))
          rw [← HNY.out.1, ← HNY.out.2] at HC1
          go_wp2_with fail
          refine HC1.out.mono ?_
          rintro e v2 ⟨rfl, b⟩
          have HK2 := Lib.hid (HK1.out.go b)
          clear b HC1 HK1
          obtain ⟨nM, hnM⟩ : ∃ n : Nat, n = (cntR M).1 := ⟨_, rfl⟩
          obtain ⟨qM, hqM⟩ : ∃ q : Bool, q = (cntR M).2 := ⟨_, rfl⟩
          have HNM := Lib.hid (And.intro hnM hqM)
          clear hnM hqM
          have HC2 := Lib.hid (count_any AM cM M v2 (sl_own (HK2.out.rowV 1)).ps HM.out.inl (by omega))
          rw [← HNM.out.1, ← HNM.out.2] at HC2
          go_wp2_with fail
          refine HC2.out.mono ?_
          rintro e v3 ⟨rfl, b⟩
          have HK3 := Lib.hid (HK2.out.go b)
          clear b HC2 HK2
          obtain ⟨nZ, hnZ⟩ : ∃ n : Nat, n = (cntR Z).1 := ⟨_, rfl⟩
          obtain ⟨qZ, hqZ⟩ : ∃ q : Bool, q = (cntR Z).2 := ⟨_, rfl⟩
          have HNZ := Lib.hid (And.intro hnZ hqZ)
          clear hnZ hqZ
          have HC3 := Lib.hid (count_any AZ cZ Z v3 (sl_own (HK3.out.rowV 0)).ps HZZ.out.2.1 (by omega))
          rw [← HNZ.out.1, ← HNZ.out.2] at HC3
          go_wp2_with fail
          refine HC3.out.mono ?_
          rintro e v4 ⟨rfl, b⟩
          have HK4 := Lib.hid (HK3.out.go b)
          clear b HC3 HK3
          have hw := HW.out
          rw [← HNX.out.1, ← HNY.out.1, ← HNM.out.1, ← HNZ.out.1] at hw
          obtain ⟨z, hz⟩ : ∃ z, z = IntKind.u64.wrap ((nX : Int) + (nY : Int)) := ⟨_, rfl⟩
          rw [← hz] at hw
          replace hz := hz.symm
          replace hw := hw.symm
          clear HNX HNY HNM HNZ HW
          have hem := HM.out.mem t
          have hez := HZZ.out.2.2.2 t
          have hsM := decide_eq_true HM.out.snd
          have hSM : Hid (sndB M = true) := Lib.hid hsM
          clear hsM
          obtain ⟨b1, hb1⟩ : ∃ b1, hasB X t = b1 := ⟨_, rfl⟩
          obtain ⟨b2, hb2⟩ : ∃ b2, hasB Y t = b2 := ⟨_, rfl⟩
          have hbm : hasB M t = (b1 && b2) := hasB_congr (by rw [hem, hasB_iff, hasB_iff, hb1, hb2, Bool.and_eq_true])
          have hbz : hasB Z t = (b1 || b2) := hasB_congr (by rw [hez, hasB_iff, hasB_iff, hb1, hb2, Bool.or_eq_true])
          have HH := Lib.hid (And.intro hb1 (And.intro hb2 (And.intro hbm hbz)))
          clear hb1 hb2 hbm hbz hem hez
          cases b1
          · cases b2
            · simp only [Bool.and_true, Bool.and_false, Bool.true_and, Bool.false_and, Bool.or_true, Bool.or_false, Bool.and_self, Bool.or_self, Bool.true_or, Bool.false_or] at HH
              have HC4 := Lib.hid (has_any t AM cM M v4 (sl_own (HK4.out.rowV 1)).ps (by omega))
              rw [HH.out.2.2.1] at HC4
              go_wp2_with fail
              refine HC4.out.mono ?_
              rintro e v5 ⟨rfl, b⟩
              have HK5 := Lib.hid (HK4.out.go b)
              clear b HC4 HK4
              have HC5 := Lib.hid (has_any t AX cX X v5 (sl_own (HK5.out.rowV 3)).ps (by omega))
              rw [HH.out.1] at HC5
              go_wp2_with fail
              refine HC5.out.mono ?_
              rintro e v6 ⟨rfl, b⟩
              have HK6 := Lib.hid (HK5.out.go b)
              clear b HC5 HK5
              have HC6 := Lib.hid (has_any t AZ cZ Z v6 (sl_own (HK6.out.rowV 0)).ps (by omega))
              rw [HH.out.2.2.2] at HC6
              go_wp2_with fail
              refine HC6.out.mono ?_
              rintro e v7 ⟨rfl, b⟩
              have HK7 := Lib.hid (HK6.out.go b)
              clear b HC6 HK6
              have HC7 := Lib.hid (has_any t AX cX X v7 (sl_own (HK7.out.rowV 3)).ps (by omega))
              rw [HH.out.1] at HC7
              go_wp2_with fail
              refine HC7.out.mono ?_
              rintro e v8 ⟨rfl, b⟩
              have HK8 := Lib.hid (HK7.out.go b)
              clear b HC7 HK7
              have HC8 := Lib.hid (has_any t AY cY Y v8 (sl_own (HK8.out.rowV 2)).ps (by omega))
              rw [HH.out.2.1] at HC8
              go_wp2_with fail
              refine HC8.out.mono ?_
              rintro e v9 ⟨rfl, b⟩
              have HK9 := Lib.hid (HK8.out.go b)
              clear b HC8 HK8
              have HC9 := Lib.hid (sound_any AM cM M v9 (sl_own (HK9.out.rowV 1)).ps HM.out.inl (by omega))
              rw [hSM.out] at HC9
              go_wp2_with fail
              refine HC9.out.mono ?_
              rintro e v10 ⟨rfl, b⟩
              have HK10 := Lib.hid (HK9.out.go b)
              clear b HC9 HK9
              go_wp2_with fail
              go_ret
              exact ⟨rfl, HK10.out.top 4⟩
            · simp only [Bool.and_true, Bool.and_false, Bool.true_and, Bool.false_and, Bool.or_true, Bool.or_false, Bool.and_self, Bool.or_self, Bool.true_or, Bool.false_or] at HH
              have HC4 := Lib.hid (has_any t AM cM M v4 (sl_own (HK4.out.rowV 1)).ps (by omega))
              rw [HH.out.2.2.1] at HC4
              go_wp2_with fail
              refine HC4.out.mono ?_
              rintro e v5 ⟨rfl, b⟩
              have HK5 := Lib.hid (HK4.out.go b)
              clear b HC4 HK4
              have HC5 := Lib.hid (has_any t AX cX X v5 (sl_own (HK5.out.rowV 3)).ps (by omega))
              rw [HH.out.1] at HC5
              go_wp2_with fail
              refine HC5.out.mono ?_
              rintro e v6 ⟨rfl, b⟩
              have HK6 := Lib.hid (HK5.out.go b)
              clear b HC5 HK5
              have HC6 := Lib.hid (has_any t AZ cZ Z v6 (sl_own (HK6.out.rowV 0)).ps (by omega))
              rw [HH.out.2.2.2] at HC6
              go_wp2_with fail
              refine HC6.out.mono ?_
              rintro e v7 ⟨rfl, b⟩
              have HK7 := Lib.hid (HK6.out.go b)
              clear b HC6 HK6
              have HC7 := Lib.hid (has_any t AX cX X v7 (sl_own (HK7.out.rowV 3)).ps (by omega))
              rw [HH.out.1] at HC7
              go_wp2_with fail
              refine HC7.out.mono ?_
              rintro e v8 ⟨rfl, b⟩
              have HK8 := Lib.hid (HK7.out.go b)
              clear b HC7 HK7
              have HC8 := Lib.hid (has_any t AY cY Y v8 (sl_own (HK8.out.rowV 2)).ps (by omega))
              rw [HH.out.2.1] at HC8
              go_wp2_with fail
              refine HC8.out.mono ?_
              rintro e v9 ⟨rfl, b⟩
              have HK9 := Lib.hid (HK8.out.go b)
              clear b HC8 HK8
              have HC9 := Lib.hid (sound_any AM cM M v9 (sl_own (HK9.out.rowV 1)).ps HM.out.inl (by omega))
              rw [hSM.out] at HC9
              go_wp2_with fail
              refine HC9.out.mono ?_
              rintro e v10 ⟨rfl, b⟩
              have HK10 := Lib.hid (HK9.out.go b)
              clear b HC9 HK9
              go_wp2_with fail
              go_ret
              exact ⟨rfl, HK10.out.top 4⟩
          · cases b2
            · simp only [Bool.and_true, Bool.and_false, Bool.true_and, Bool.false_and, Bool.or_true, Bool.or_false, Bool.and_self, Bool.or_self, Bool.true_or, Bool.false_or] at HH
              have HC4 := Lib.hid (has_any t AM cM M v4 (sl_own (HK4.out.rowV 1)).ps (by omega))
              rw [HH.out.2.2.1] at HC4
              go_wp2_with fail
              refine HC4.out.mono ?_
              rintro e v5 ⟨rfl, b⟩
              have HK5 := Lib.hid (HK4.out.go b)
              clear b HC4 HK4
              have HC5 := Lib.hid (has_any t AX cX X v5 (sl_own (HK5.out.rowV 3)).ps (by omega))
              rw [HH.out.1] at HC5
              go_wp2_with fail
              refine HC5.out.mono ?_
              rintro e v6 ⟨rfl, b⟩
              have HK6 := Lib.hid (HK5.out.go b)
              clear b HC5 HK5
              have HC6 := Lib.hid (has_any t AY cY Y v6 (sl_own (HK6.out.rowV 2)).ps (by omega))
              rw [HH.out.2.1] at HC6
              go_wp2_with fail
              refine HC6.out.mono ?_
              rintro e v7 ⟨rfl, b⟩
              have HK7 := Lib.hid (HK6.out.go b)
              clear b HC6 HK6
              have HC7 := Lib.hid (has_any t AZ cZ Z v7 (sl_own (HK7.out.rowV 0)).ps (by omega))
              rw [HH.out.2.2.2] at HC7
              go_wp2_with fail
              refine HC7.out.mono ?_
              rintro e v8 ⟨rfl, b⟩
              have HK8 := Lib.hid (HK7.out.go b)
              clear b HC7 HK7
              have HC8 := Lib.hid (has_any t AX cX X v8 (sl_own (HK8.out.rowV 3)).ps (by omega))
              rw [HH.out.1] at HC8
              go_wp2_with fail
              refine HC8.out.mono ?_
              rintro e v9 ⟨rfl, b⟩
              have HK9 := Lib.hid (HK8.out.go b)
              clear b HC8 HK8
              have HC9 := Lib.hid (sound_any AM cM M v9 (sl_own (HK9.out.rowV 1)).ps HM.out.inl (by omega))
              rw [hSM.out] at HC9
              go_wp2_with fail
              refine HC9.out.mono ?_
              rintro e v10 ⟨rfl, b⟩
              have HK10 := Lib.hid (HK9.out.go b)
              clear b HC9 HK9
              go_wp2_with fail
              go_ret
              exact ⟨rfl, HK10.out.top 4⟩
            · simp only [Bool.and_true, Bool.and_false, Bool.true_and, Bool.false_and, Bool.or_true, Bool.or_false, Bool.and_self, Bool.or_self, Bool.true_or, Bool.false_or] at HH
              have HC4 := Lib.hid (has_any t AM cM M v4 (sl_own (HK4.out.rowV 1)).ps (by omega))
              rw [HH.out.2.2.1] at HC4
              go_wp2_with fail
              refine HC4.out.mono ?_
              rintro e v5 ⟨rfl, b⟩
              have HK5 := Lib.hid (HK4.out.go b)
              clear b HC4 HK4
              have HC5 := Lib.hid (has_any t AX cX X v5 (sl_own (HK5.out.rowV 3)).ps (by omega))
              rw [HH.out.1] at HC5
              go_wp2_with fail
              refine HC5.out.mono ?_
              rintro e v6 ⟨rfl, b⟩
              have HK6 := Lib.hid (HK5.out.go b)
              clear b HC5 HK5
              have HC6 := Lib.hid (has_any t AY cY Y v6 (sl_own (HK6.out.rowV 2)).ps (by omega))
              rw [HH.out.2.1] at HC6
              go_wp2_with fail
              refine HC6.out.mono ?_
              rintro e v7 ⟨rfl, b⟩
              have HK7 := Lib.hid (HK6.out.go b)
              clear b HC6 HK6
              have HC7 := Lib.hid (has_any t AZ cZ Z v7 (sl_own (HK7.out.rowV 0)).ps (by omega))
              rw [HH.out.2.2.2] at HC7
              go_wp2_with fail
              refine HC7.out.mono ?_
              rintro e v8 ⟨rfl, b⟩
              have HK8 := Lib.hid (HK7.out.go b)
              clear b HC7 HK7
              have HC8 := Lib.hid (has_any t AX cX X v8 (sl_own (HK8.out.rowV 3)).ps (by omega))
              rw [HH.out.1] at HC8
              go_wp2_with fail
              refine HC8.out.mono ?_
              rintro e v9 ⟨rfl, b⟩
              have HK9 := Lib.hid (HK8.out.go b)
              clear b HC8 HK8
              have HC9 := Lib.hid (sound_any AM cM M v9 (sl_own (HK9.out.rowV 1)).ps HM.out.inl (by omega))
              rw [hSM.out] at HC9
              go_wp2_with fail
              refine HC9.out.mono ?_
              rintro e v10 ⟨rfl, b⟩
              have HK10 := Lib.hid (HK9.out.go b)
              clear b HC9 HK9
              go_wp2_with fail
              go_ret
              exact ⟨rfl, HK10.out.top 4⟩

end Go.Proofs.Ytfbnobhecfgahaa
