/- Layer 23: the walk of SpanOrder. -/
import Derived.Test.YtfbnobhecfgahaaSp14
import Derived.Test.YtfbnobhecfgahaaSp15
set_option linter.unusedSimpArgs false
set_option linter.unusedVariables false
namespace Go.Proofs.Ytfbnobhecfgahaa
open Go.RowKit
set_option maxRecDepth 100000

theorem rev_step {l : List Sp} {j : Nat} {x : Sp} (h : l[j]? = some x) : (l.drop j).reverse = (l.drop (j + 1)).reverse ++ [x] := by
  rw [drop_at h, List.reverse_cons]
theorem add_in {l X R : List Sp} {s : Sp} {lo hi : Int} (hX : SetR l X) (hs : s ∈ l) (hR : AddR X (lo, hi) R) (e1 : lo = min s.1 s.2) (e2 : hi = max s.1 s.2) : X = R := by
  subst e1 e2
  refine snd_uniq hX.snd hR.snd fun t => ?_
  rw [hR.mem]
  constructor
  · exact .inl
  · rintro (h | h)
    · exact h
    · exact (hX.mem t).2 ⟨s, hs, h⟩
set_option maxHeartbeats 16000000 in
theorem spanOrder_walk (V : Option Addr) (c : Nat) (l : List Sp) (kx : Int) (w : World) (hV : Ps w V l) (hi : InL l) (hkx : kx ≤ 9223372036854775807) :
    Calls Try.prog 8 #[.slice V l.length c, .int .i64 kx] w fun e w' => e = .returned (.bool true) ∧ Below w.heap.size w w' := by
  by_cases hlen : 20 < l.length
  · have hd : decide ((20 : Int) < l.length) = true := decide_eq_true (by omega)
    clear hV hi
    go_enter Try.func8, Try.ntmps8
    go_wp2_with fail
    refine (sknown_any _).mono ?_
    rintro e w1 ⟨rfl, b⟩
    have HB := Lib.hid (b)
    clear b
    go_wp2_with fail
    go_ret
    exact ⟨rfl, HB.out⟩
  · have hd : decide ((20 : Int) < l.length) = false := decide_eq_false (by omega)
    have hl20 : l.length ≤ 20 := by omega
    have HV := Lib.hid hV
    have HI := Lib.hid hi
    have HKx := Lib.hid hkx
    clear hV hi hlen hkx
    have hw0 : IntKind.i64.wrap ((l.length : Int) - 1) = (l.length : Int) - 1 := by rw [IntKind.wrap_i64]; omega
    have HK0 := Lib.hid (Qs.zero w)
    go_enter Try.func8, Try.ntmps8
    go_wp2_with fail
    refine (sknown_any _).mono ?_
    rintro e w1 ⟨rfl, b⟩
    have HK1 := Lib.hid (HK0.out.go b)
    clear b HK0
    go_wp2_with fail
    go_loopw [5, 6] (fun s5 s6 wr => ∃ (i : Int) (j : Nat) (T : List Sp) (A2 : Option Addr) (c2 : Nat), j ≤ l.length ∧ Hid (i = (j : Int) - 1) ∧ s6 = .int .i64 i ∧ s5 = .slice A2 T.length c2 ∧ Hid (T = (l.drop j).reverse) ∧ Hid (OwnR wr w1.heap.size 24 encS 2 (.slice A2 T.length c2) T) ∧ Hid (Below w1.heap.size w1 wr))
      (fun _ s6 _ => (intOf s6 + 1).toNat)
    case atStart => exact ⟨(l.length : Int) - 1, l.length, [], none, 0, Nat.le_refl _, Lib.hid rfl, rfl, rfl, Lib.hid (by simp), Lib.hid (OwnR.nil _ _ _ _ _), Lib.hid (Below.refl _ _)⟩
    case round =>
      obtain ⟨i, j, T, A2, c2, hj, Hi, rfl, rfl, HT, HO, HB⟩ := hrel
      have hTl : T.length ≤ 20 := by rw [HT.out, List.length_reverse, List.length_drop]; omega
      have hsz := HB.out.size
      rcases j with _ | j
      · obtain rfl : i = -1 := by have := Hi.out; omega
        have HTr := Lib.hid (show T = l.reverse by rw [HT.out, List.drop_zero])
        have HK2 := Lib.hid ((HK1.out.go HB.out).cons (k := qV _ _ _ _ _ _) (HO.out.mono (Nat.zero_le _)))
        clear HT Hi HK1
        obtain ⟨w2, hw2⟩ : ∃ w2, w2 = wr := ⟨_, rfl⟩
        subst hw2
        have HIT : Hid (InL T) := Lib.hid (fun x hx => HI.out x (by rw [HTr.out] at hx; exact List.mem_reverse.1 hx))
        have HC2 := Lib.hid (set_any V c l w2 (HV.out.below (HK2.out.top 1) (Nat.le_refl _)) HI.out (by omega))
        go_wp2_with fail
        refine HC2.out.mono ?_
        rintro e w3 ⟨⟨X, AX, cX, hf, rfl, hown⟩, b⟩
        have HX := Lib.hid hf
        have HK3 := Lib.hid ((HK2.out.go b).cons (k := qV _ _ _ _ _ _) (hown.mono (Nat.zero_le _)))
        clear b hown hf HC2 HK2
        have HC3 := Lib.hid (set_any A2 c2 T w3 (sl_own (HK3.out.rowV 1)).ps HIT.out (by omega))
        go_wp2_with fail
        refine HC3.out.mono ?_
        rintro e w4 ⟨⟨Y, AY, cY, hf, rfl, hown⟩, b⟩
        have HY := Lib.hid hf
        have HK4 := Lib.hid ((HK3.out.go b).cons (k := qV _ _ _ _ _ _) (hown.mono (Nat.zero_le _)))
        clear b hown hf HC3 HK3
        obtain rfl : X = Y := HX.out.uniq HY.out (fun s => by rw [HTr.out, List.mem_reverse])
        have hXl := HX.out.len
        have HC4 := Lib.hid (ssame_any AX AY cX cY X X w4 (sl_own (HK4.out.rowV 1)).ps (sl_own (HK4.out.rowV 0)).ps (by omega) (by omega))
        rw [decide_eq_true rfl] at HC4
        go_wp2_with fail
        refine HC4.out.mono ?_
        rintro e w5 ⟨rfl, b⟩
        have HK5 := Lib.hid (HK4.out.go b)
        clear b HC4 HK4
        by_cases h0 : l.length = 0
        · have hX0 : X.length = 0 := by omega
          have e0 : (((l.length : Nat) : Int) == 0) = true := beq_iff_eq.2 (by omega)
          have e1 : (((X.length : Nat) : Int) == 0) = true := beq_iff_eq.2 (by omega)
          clear h0 hX0 hXl hw0
          go_wp2_with fail
          go_ret
          exact ⟨rfl, HK5.out.top 3⟩
        · have e0 : (((l.length : Nat) : Int) == 0) = false := beq_eq_false_iff_ne.2 (by omega)
          obtain ⟨m, hm0, hm1⟩ : ∃ m : Nat, (if 0 ≤ kx then (m : Int) = kx else m = 0) ∧ (m : Int) ≤ 9223372036854775807 := by
            have := HKx.out
            by_cases hk0 : 0 ≤ kx
            · exact ⟨kx.toNat, by rw [if_pos hk0]; omega, by omega⟩
            · exact ⟨0, by rw [if_neg hk0], by omega⟩
          obtain ⟨q, hq⟩ : ∃ q, q = m % l.length := ⟨_, rfl⟩
          have hql : q < l.length := by rw [hq]; exact Nat.mod_lt _ (by omega)
          obtain ⟨p, o, rfl, hc⟩ := ps_at HV.out q l[q] (List.getElem?_eq_getElem hql)
          have hxm := List.getElem_mem hql
          obtain ⟨x, hx⟩ : ∃ x, x = l[q] := ⟨_, rfl⟩
          rw [← hx] at hc hxm
          have HXm := Lib.hid hxm
          have HIx := Lib.hid (HI.out x hxm)
          obtain ⟨s1, s2⟩ := x
          dsimp only at hc
          have D := hc w5 (HK5.out.top 3)
          have r1 : (m : Int) % (l.length : Int) = (q : Int) := by rw [hq]; exact (Int.natCast_emod m l.length).symm
          have r2 : Int.tmod (m : Int) (l.length : Int) = (q : Int) := by rw [Int.tmod_eq_emod_of_nonneg (by omega)]; exact r1
          have hql2 : (q : Int) < l.length := by omega
          have hqw : IntKind.i64.wrap (q : Int) = q := by rw [IntKind.wrap_i64]; omega
          have hne : ¬ ((l.length : Int) = 0) := by omega
          clear hc hxm hx hq h0
          go_upto_region 11 with fail
          go_cut [8] (fun s8 wx => s8 = .pointer (some ⟨w5.heap.size, 0, none⟩) ∧ Hid (Qs wx [qB w5.heap.size 24 #[.int .i64 s1, .int .i64 s2], qV 0 24 encS 2 (.slice AX X.length cX) X, qW w w.heap.size (Nat.le_refl _)]))
          case first =>
            by_cases hk0 : 0 ≤ kx
            · rw [if_pos hk0] at hm0
              subst hm0
              have hlt0 : ¬ (m : Int) < 0 := by omega
              go_wp2_with fail
              go_meet
              refine ⟨rfl, Lib.hid (fun k hk => ?_)⟩
              have h9 := HK5.out.box #[.int .i64 s1, .int .i64 s2] 24
              simp only [List.mem_cons, List.not_mem_nil, or_false] at hk
              rcases hk with rfl | rfl | rfl
              · exact h9.get 0 rfl
              · exact h9.get 2 rfl
              · exact h9.get 4 rfl
            · rw [if_neg hk0] at hm0
              subst hm0
              have hlt0 : kx < 0 := by omega
              obtain rfl : q = 0 := by have := r1; simp at this; omega
              simp only [Nat.zero_mul, Nat.add_zero] at D
              go_wp2_with fail
              go_meet
              refine ⟨rfl, Lib.hid (fun k hk => ?_)⟩
              have h9 := HK5.out.box #[.int .i64 s1, .int .i64 s2] 24
              simp only [List.mem_cons, List.not_mem_nil, or_false] at hk
              rcases hk with rfl | rfl | rfl
              · exact h9.get 0 rfl
              · exact h9.get 2 rfl
              · exact h9.get 4 rfl
          case rest =>
            obtain ⟨rfl, HK0⟩ := hcut
            clear D HK5
            have C := HK0.out.says
            simp only [sayAll, cellsSay, qB, qW, qV, Nat.reduceAdd, and_true, true_and] at C
            have hio := HIx.out
            unfold In at hio
            obtain ⟨v0, hv0⟩ : ∃ v0, v0 = wc := ⟨_, rfl⟩
            subst hv0
            rcases Int.lt_trichotomy s2 s1 with hm | hm | hm
            · have hm2 : ¬ s1 < s2 := by omega
              have HC0 := Lib.hid (add_yes AX cX X s2 s1 v0 (sl_own (HK0.out.rowV 1)) HX.out.inl (by omega) HX.out.snd (by omega) (by unfold In; omega) (by unfold In; omega))
              clear hio
              go_wp2_with fail
              refine HC0.out.mono ?_
              rintro e v1 ⟨⟨R, AR, cR, hf, rfl, hown⟩, b⟩
              obtain rfl : X = R := add_in HX.out HXm.out hf (by (try dsimp only) <;> omega) (by (try dsimp only) <;> omega)
              have HK1 := Lib.hid ((HK0.out.go b).cons (k := qV _ _ _ _ _ _) (hown.mono (Nat.zero_le _)))
              clear b hf hown HC0 HK0 C
              have HC1 := Lib.hid (ssame_any AX AR cX cR X X v1 (sl_own (HK1.out.rowV 2)).ps (sl_own (HK1.out.rowV 0)).ps (by omega) (by omega))
              rw [decide_eq_true rfl] at HC1
              go_wp2_with fail
              refine HC1.out.mono ?_
              rintro e v2 ⟨rfl, b⟩
              have HK2 := Lib.hid (HK1.out.go b)
              go_wp2_with fail
              go_ret
              exact ⟨rfl, HK2.out.top 3⟩
            · obtain rfl : s2 = s1 := hm
              have HC0 := Lib.hid (add_yes AX cX X s2 s2 v0 (sl_own (HK0.out.rowV 1)) HX.out.inl (by omega) HX.out.snd (by omega) (by unfold In; omega) (by unfold In; omega))
              clear hio
              go_wp2_with fail
              refine HC0.out.mono ?_
              rintro e v1 ⟨⟨R, AR, cR, hf, rfl, hown⟩, b⟩
              obtain rfl : X = R := add_in HX.out HXm.out hf (by (try dsimp only) <;> omega) (by (try dsimp only) <;> omega)
              have HK1 := Lib.hid ((HK0.out.go b).cons (k := qV _ _ _ _ _ _) (hown.mono (Nat.zero_le _)))
              clear b hf hown HC0 HK0 C
              have HC1 := Lib.hid (ssame_any AX AR cX cR X X v1 (sl_own (HK1.out.rowV 2)).ps (sl_own (HK1.out.rowV 0)).ps (by omega) (by omega))
              rw [decide_eq_true rfl] at HC1
              go_wp2_with fail
              refine HC1.out.mono ?_
              rintro e v2 ⟨rfl, b⟩
              have HK2 := Lib.hid (HK1.out.go b)
              go_wp2_with fail
              go_ret
              exact ⟨rfl, HK2.out.top 3⟩
            · have hm2 : ¬ s2 < s1 := by omega
              have HC0 := Lib.hid (add_yes AX cX X s1 s2 v0 (sl_own (HK0.out.rowV 1)) HX.out.inl (by omega) HX.out.snd (by omega) (by unfold In; omega) (by unfold In; omega))
              clear hio
              go_wp2_with fail
              refine HC0.out.mono ?_
              rintro e v1 ⟨⟨R, AR, cR, hf, rfl, hown⟩, b⟩
              obtain rfl : X = R := add_in HX.out HXm.out hf (by (try dsimp only) <;> omega) (by (try dsimp only) <;> omega)
              have HK1 := Lib.hid ((HK0.out.go b).cons (k := qV _ _ _ _ _ _) (hown.mono (Nat.zero_le _)))
              clear b hf hown HC0 HK0 C
              have HC1 := Lib.hid (ssame_any AX AR cX cR X X v1 (sl_own (HK1.out.rowV 2)).ps (sl_own (HK1.out.rowV 0)).ps (by omega) (by omega))
              rw [decide_eq_true rfl] at HC1
              go_wp2_with fail
              refine HC1.out.mono ?_
              rintro e v2 ⟨rfl, b⟩
              have HK2 := Lib.hid (HK1.out.go b)
              go_wp2_with fail
              go_ret
              exact ⟨rfl, HK2.out.top 3⟩
      · obtain rfl : i = (j : Int) := by have := Hi.out; omega
        obtain ⟨p, o, rfl, hc⟩ := ps_at HV.out j l[j] (List.getElem?_eq_getElem (by omega))
        have hX := List.getElem?_eq_getElem (show j < l.length by omega)
        obtain ⟨x, hx⟩ : ∃ x, x = l[j] := ⟨_, rfl⟩
        rw [← hx] at hc hX
        have HT2 := Lib.hid (show T ++ [x] = (l.drop j).reverse by rw [rev_step hX, HT.out])
        obtain ⟨xf, xt⟩ := x
        dsimp only at hc
        have C := hc wr ((HK1.out.top 0).trans (HB.out.mono (HK1.out.top 0).size))
        have hjl : (j : Int) < l.length := by omega
        have hw2 : IntKind.i64.wrap ((j : Int) - 1) = (j : Int) - 1 := by rw [IntKind.wrap_i64]; omega
        clear hc hX hx
        go_wp2_with (at_builtin; go_must (refine appR1 Try.eltS _ rfl (.tmp 26) (.tmp 31) rfl w1.heap.size _ T rfl (HO.out.alloc _) wr.heap.size 1 (xf, xt) 24 _ rfl (Blk.new wr _ _) rfl (by unfold maxLen; omega) (by omega) (by simp; omega) ?_); intro g4 c4 w4 hown4 hb4 hg4)
        go_roundw
        case measure => simp [intOf] <;> omega
        case rel => exact ⟨(j : Int) - 1, j, T ++ [(xf, xt)], some ⟨g4, 0, none⟩, c4, by omega, Lib.hid rfl, rfl, by simp, HT2, Lib.hid (by simpa using hown4), Lib.hid ((HB.out.alloc hsz _).trans hb4)⟩

end Go.Proofs.Ytfbnobhecfgahaa
