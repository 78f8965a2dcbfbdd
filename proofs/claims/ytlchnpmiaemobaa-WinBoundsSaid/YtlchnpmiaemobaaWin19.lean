/- Layer 13: walk of WinEnds. -/
import Derived.Test.YtlchnpmiaemobaaWin18
import Derived.Test.YtlchnpmiaemobaaObjA
set_option linter.unusedSimpArgs false
set_option linter.unusedVariables false
namespace Go.Proofs.Ytlchnpmiaemobaa
open Go.RowKit
set_option maxRecDepth 100000

/-- numbers of an argument -/
def OkP (p : PC) : Prop := p.t0 ≤ 4294967295 ∧ p.t2 ≤ 4294967295
def OkO2 (L : List OC) : Prop := ∀ o ∈ L, OkP o.p
def addsL (b : Int) (L : List OC) (k : Nat) : List PC := (L.take k).foldl (fun l o => addL b l o.p) []
theorem addsL_succ (b : Int) (L : List OC) (k : Nat) (o : OC) (h : L[k]? = some o) : addsL b L (k + 1) = addL b (addsL b L k) o.p := by
  obtain ⟨hj, hx⟩ := List.getElem?_eq_some_iff.1 h
  unfold addsL
  rw [List.take_succ_eq_append_getElem hj, List.foldl_append, hx]
  rfl
theorem addsL_ok {b : Int} (hb : b ≤ 1048576) (L : List OC) (h2 : OkO2 L) : ∀ k, k ≤ L.length → OkL (addsL b L k) ∧ (addsL b L k).length ≤ k ∧ ∀ p ∈ addsL b L k, OkP p
  | 0, _ => ⟨OkL.nil, Nat.le_refl _, fun p hp => by cases hp⟩
  | k + 1, hk => by
    have ih := addsL_ok hb L h2 k (by omega)
    rw [addsL_succ b L k L[k] (List.getElem?_eq_getElem (by omega))]
    refine ⟨ih.1.add hb _, by have := addL_len b (addsL b L k) L[k].p; omega, fun p hp => ?_⟩
    unfold addL at hp
    split at hp
    · rcases List.mem_append.1 hp with hp | hp
      · exact ih.2.2 p hp
      · rw [List.mem_singleton.1 hp]; exact h2 _ (List.getElem_mem _)
    · exact ih.2.2 p hp
theorem goneA_last {se : Nat} {l : List PC} (h : ∀ p ∈ l, OkP p) : (l.filter fun p => !goneA se 4294967295 4294967295 p) = l.filter fun p => !goneD se p := by
  refine List.filter_congr fun p hp => ?_
  have := h p hp
  unfold OkP at this
  unfold goneA goneD bef
  have h1 : ¬ 4294967295 < p.t0 := by omega
  have h2 : ¬ 4294967295 < p.t2 := by omega
  simp [h1, h2]
theorem goneD_ne (se : Nat) (p : PC) : (!goneD se p) = ((p.se : Int) != (se : Int)) := by
  unfold goneD
  by_cases h : p.se = se
  · subst h; simp
  · have h2 : ¬ (p.se : Int) = se := by omega
    simp [h, h2]

set_option maxHeartbeats 4000000 in
theorem winEnds_walk (V : Option Addr) (c : Nat) (L : List OC) (se : Nat) (dr : Bool) (w : World) (hV : Rw w encO 9 V L) (hL : L.length ≤ maxLen) (hok : OkO2 L) :
    Calls Try.prog 7 #[.slice V L.length c, .int .u32 se, .bool dr] w fun e w' => e = .returned (.bool true) ∧ Below w.heap.size w w' := by
  have HKn := Lib.hid (fun W => known_any W)
  unfold maxLen at hL
  by_cases hlen : 100 < L.length
  · have hd : decide ((100 : Int) < L.length) = true := decide_eq_true (by omega)
    clear hV hok
    go_enter Try.func7, Try.ntmps7
    go_wp2_with fail
    refine (HKn.out _).mono ?_
    rintro e w1 ⟨rfl, b1⟩
    have HB := Lib.hid b1
    clear b1
    go_wp2_with fail
    go_ret
    exact ⟨rfl, HB.out⟩
  · have hl1 : L.length ≤ 100 := by omega
    have hd : decide ((100 : Int) < L.length) = false := decide_eq_false (by omega)
    clear hL hlen
    have HV := Lib.hid hV
    have HO := Lib.hid hok
    clear hV hok
    go_enter Try.func7, Try.ntmps7
    go_wp2_with fail
    refine (HKn.out _).mono ?_
    rintro e w1 ⟨rfl, b1⟩
    have HQ1 := Lib.hid ((Qs.zero w).go b1)
    have z1 := b1.size
    clear b1
    go_wp2_with fail
    refine (w_new 1048576 (by omega) (by omega) HQ1.out (fun k hk => ⟨Nat.le_trans z1 hk, trivial⟩)).mono ?_
    rintro e w2 ⟨rfl, k2⟩
    have H2 := Lib.hid k2
    clear k2
    obtain ⟨g, hg⟩ : ∃ g, g = w1.heap.size := ⟨_, rfl⟩
    rw [← hg] at H2
    simp only [← hg]
    clear hg HQ1 z1
    go_wp2_with fail
    go_loopw [8] (fun s8 wr => ∃ k : Nat, k ≤ L.length ∧ s8 = .int .i64 k ∧ Hid (One wr [qW w w.heap.size (Nat.le_refl _)] (oW g 1048576 (addsL 1048576 L k))))
      (fun s8 _ => L.length - (intOf s8).toNat)
    case atStart => exact ⟨0, Nat.zero_le _, rfl, H2⟩
    case round =>
      obtain ⟨k, hk, rfl, HT⟩ := hrel
      clear H2
      by_cases hlt : k < L.length
      · obtain ⟨p, o, rfl, hc⟩ := rw_at (HV.out.below (HT.out.qs.top 0) (Nat.le_refl _)) k hlt
        have hrs := addsL_succ 1048576 L k L[k] (List.getElem?_eq_getElem hlt)
        have hro := addsL_ok (b := 1048576) (by omega) L HO.out k (by omega)
        obtain ⟨x, hx⟩ : ∃ x, x = L[k] := ⟨_, rfl⟩
        rw [← hx] at hc hrs
        clear hx
        obtain ⟨l1, hl1e⟩ : ∃ l1, l1 = addsL 1048576 L k := ⟨_, rfl⟩
        rw [← hl1e] at HT hro hrs
        have hD := w_add HT.out hro.1 (by omega) (by omega) x.p
        rw [← hrs] at hD
        obtain ⟨kd, se', f0, f1, f2, t0, t1, t2, pn⟩ := x
        simp only [encP] at hD
        have C := And.intro (hc 1 _ rfl) (And.intro (hc 2 _ rfl) (And.intro (hc 3 _ rfl) (And.intro (hc 4 _ rfl) (And.intro (hc 5 _ rfl) (And.intro (hc 6 _ rfl) (And.intro (hc 7 _ rfl) (hc 8 _ rfl)))))))
        simp only [Nat.add_zero] at C
        have HD := Lib.hid hD
        clear hc hrs hro hl1e hD
        go_wp2_with fail
        refine HD.out.mono ?_
        rintro e w4 ⟨rfl, k4⟩
        have H4 := Lib.hid k4
        clear k4 C HD
        go_wp2_with fail
        go_roundw
        case measure => simp [intOf]; omega
        case rel => exact ⟨k + 1, by omega, by go_num, H4⟩
      · obtain rfl : k = L.length := by omega
        have hro := addsL_ok (b := 1048576) (by omega) L HO.out L.length (Nat.le_refl _)
        obtain ⟨l, hle⟩ : ∃ l, l = addsL 1048576 L L.length := ⟨_, rfl⟩
        rw [← hle] at HT hro
        have HR := Lib.hid hro
        have hll : l.length ≤ 100 := by omega
        clear hle hro hlt
        go_wp2_with fail
        refine (w_pieces HT.out (by omega)).mono ?_
        rintro e w5 ⟨A5, c5, rfl, hown5, b5⟩
        have H5 := Lib.hid (HT.out.pushRow b5 hown5)
        obtain ⟨B5, hB5⟩ : ∃ B5, B5 = wr.heap.size := ⟨_, rfl⟩
        rw [← hB5] at H5
        clear hown5 b5 HT hB5
        cases dr
        have HA := Lib.hid (w_ack H5.out HR.out.1 (by omega) se 4294967295 0 4294967295)
        rw [goneA_last HR.out.2.2] at HA
        go_wp2_with fail
        refine HA.out.mono ?_
        rintro e w6 ⟨rfl, k6⟩
        have H6 := Lib.hid k6
        clear k6 HA
        go_wp2_with fail
        rotate_left
        have HA := Lib.hid (w_drop H5.out HR.out.1 (by omega) se)
        go_wp2_with fail
        refine HA.out.mono ?_
        rintro e w6 ⟨rfl, k6⟩
        have H6 := Lib.hid k6
        clear k6 HA
        go_wp2_with fail
        all_goals
          obtain ⟨l', hl'⟩ : ∃ l', l' = l.filter fun p => !goneD se p := ⟨_, rfl⟩
          rw [← hl'] at H6
          have HLe := Lib.hid hl'
          have hll' : l'.length ≤ 100 := by rw [hl']; have := List.length_filter_le (fun p => !goneD se p) l; omega
          clear hl'
          refine (w_pieces H6.out (by omega)).mono ?_
          rintro e w7 ⟨A7, c7, rfl, hown7, b7⟩
          have H7 := Lib.hid (((H6.out.pushRow b7 hown7).qs).cons (k := qW w7 w7.heap.size (Nat.le_refl _)) ⟨Below.refl _ _, Nat.le_refl _⟩)
          obtain ⟨B7, hB7⟩ : ∃ B7, B7 = w6.heap.size := ⟨_, rfl⟩
          rw [← hB7] at H7
          clear hown7 b7 hB7 H6 H5
          go_wp2_with fail
          go_loopw [11, 12] (fun s11 s12 wr => ∃ (k : Nat) (M : List PC) (A2 : Option Addr) (c2 : Nat), k ≤ l.length ∧ s12 = .int .i64 k ∧ s11 = .slice A2 M.length c2 ∧ Hid ((l.take k).filter (fun p => !goneD se p) = M) ∧ Hid (OwnR wr w7.heap.size 31 encP 8 (.slice A2 M.length c2) M) ∧ Hid (Below w7.heap.size w7 wr))
            (fun _ s12 _ => l.length - (intOf s12).toNat)
          case atStart => exact ⟨0, [], none, 0, Nat.zero_le _, rfl, rfl, Lib.hid rfl, Lib.hid (OwnR.nil _ _ _ _ _), Lib.hid (Below.refl _ _)⟩
          case round =>
            obtain ⟨k, M, A2, c2, hk, rfl, rfl, HM, HOw, HB⟩ := hrel
            have hMl : M.length ≤ k := by rw [← HM.out]; have := List.length_filter_le (fun p => !goneD se p) (l.take k); rw [List.length_take] at this; omega
            have hsz := HB.out.size
            by_cases hlt : k < l.length
            · obtain ⟨p, rfl, hc, -, -, -, -⟩ := OwnR.at_ Try.eltP ((H7.out.go HB.out).rowV 2) k hlt
              have hst := filt_snoc (f := fun p => !goneD se p) (List.getElem?_eq_getElem hlt)
              rw [HM.out] at hst
              obtain ⟨x, hx⟩ : ∃ x, x = l[k] := ⟨_, rfl⟩
              rw [← hx] at hc hst
              have hne := goneD_ne se x
              obtain ⟨ps, f0, f1, f2, t0, t1, t2, pn⟩ := x
              simp only at hne
              rw [hne] at hst
              have C := And.intro (hc 0 _ rfl) (And.intro (hc 1 _ rfl) (And.intro (hc 2 _ rfl) (And.intro (hc 3 _ rfl) (And.intro (hc 4 _ rfl) (And.intro (hc 5 _ rfl) (And.intro (hc 6 _ rfl) (hc 7 _ rfl)))))))
              simp only [Nat.add_zero] at C
              clear hc hx hne
              cases hq : ((ps : Int) != (se : Int))
              · rw [hq] at hst
                have Hst := Lib.hid (show (l.take (k + 1)).filter (fun p => !goneD se p) = M by rw [hst]; simp)
                clear hst
                go_wp2_with fail
                go_roundw
                case measure => simp [intOf]; omega
                case rel => exact ⟨k + 1, M, A2, c2, by omega, by go_num, rfl, Hst, HOw, HB⟩
              · rw [hq] at hst
                have Hst := Lib.hid (show (l.take (k + 1)).filter (fun p => !goneD se p) = M ++ [⟨ps, f0, f1, f2, t0, t1, t2, pn⟩] by rw [hst]; simp)
                clear hst
                go_wp2_with (at_builtin; go_must (refine appR1 Try.eltP _ rfl (.tmp 62) (.tmp 67) rfl w7.heap.size _ M rfl (HOw.out.alloc _) wr.heap.size 1 ⟨ps, f0, f1, f2, t0, t1, t2, pn⟩ 31 _ rfl (Blk.new wr _ _) rfl (by unfold maxLen; omega) (by omega) (by simp; omega) ?_); intro g8 c8 w8 hown8 hb8 hg8)
                go_roundw
                case measure => simp [intOf]; omega
                case rel => exact ⟨k + 1, M ++ [⟨ps, f0, f1, f2, t0, t1, t2, pn⟩], some ⟨g8, 0, none⟩, c8, by omega, by go_num, by simp, Hst, Lib.hid (by simpa using hown8), Lib.hid ((HB.out.alloc hsz _).trans hb8)⟩
            · obtain rfl : k = l.length := by omega
              rw [List.take_length, ← HLe.out] at HM
              have hMe := HM.out
              subst hMe
              have hS := same_any A7 A2 c7 c2 l' l' wr (OwnR.mono ((H7.out.go HB.out).rowV 1) (Nat.zero_le _)) (OwnR.mono HOw.out (Nat.zero_le _)) (by omega) (by omega)
              rw [show decide (l' = l') = true from decide_eq_true rfl] at hS
              have HS := Lib.hid hS
              clear hS
              go_wp2_with fail
              refine HS.out.mono ?_
              rintro e w9 ⟨rfl, b9⟩
              have HB9 := Lib.hid b9
              clear b9
              go_wp2_with fail
              go_ret
              exact ⟨rfl, ((H7.out.go HB.out).go HB9.out).top 3⟩

end Go.Proofs.Ytlchnpmiaemobaa
