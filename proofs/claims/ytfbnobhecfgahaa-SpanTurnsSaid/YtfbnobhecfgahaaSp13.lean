/- Layer 23: Meet of the program. -/
import Derived.Test.YtfbnobhecfgahaaSp12
import Derived.Deep.LoopGhost
set_option linter.unusedSimpArgs false
set_option linter.unusedVariables false
namespace Go.Proofs.Ytfbnobhecfgahaa
open Go.RowKit
set_option maxRecDepth 100000

theorem meet_no (V U : Option Addr) (c d : Nat) (a b : List Sp) (w : World) (hV : Ps w V a) (hU : Ps w U b) (hia : InL a) (hib : InL b) (hla : a.length ≤ 1000000) (hlb : b.length ≤ 1000000) (hno : ¬ (Snd a ∧ Snd b)) :
    Calls Try.prog 14 #[.slice V a.length c, .slice U b.length d] w fun e w' => e = .returned (.tuple #[.slice none 0 0, .int .u16 1]) ∧ Below w.heap.size w w' := by
  have HS := Lib.hid (sound_any V c a w hV hia hla)
  have HS2 := Lib.hid (fun (W : World) (hb : Below w.heap.size w W) => sound_any U d b W (hU.below hb (Nat.le_refl _)) hib hlb)
  obtain ⟨x, hx⟩ : ∃ x, x = sndB a := ⟨_, rfl⟩
  obtain ⟨y, hy⟩ : ∃ y, y = sndB b := ⟨_, rfl⟩
  have hxy : (x && y) = false := by
    rw [hx, hy]; unfold sndB
    rw [← Bool.not_eq_true, Bool.and_eq_true, decide_eq_true_iff, decide_eq_true_iff]; exact hno
  rw [← hx] at HS
  rw [← hy] at HS2
  clear hV hU hia hib hno hx hy
  cases x
  · go_enter Try.func14, Try.ntmps14
    go_wp2_with fail
    go_step3
    go_wp2_with fail
    refine HS.out.mono ?_
    rintro e w1 ⟨rfl, b1⟩
    go_wp2_with fail
    rw [Exit.noGoto_ret]
    go_ret2
    exact ⟨rfl, b1⟩
  · obtain rfl : y = false := by simpa using hxy
    go_enter Try.func14, Try.ntmps14
    go_wp2_with fail
    go_step3
    go_wp2_with fail
    refine HS.out.mono ?_
    rintro e w1 ⟨rfl, b1⟩
    have HC := Lib.hid (HS2.out w1 b1)
    go_wp2_with fail
    refine HC.out.mono ?_
    rintro e w2 ⟨rfl, b2⟩
    have HB := Lib.hid (b1.trans (b2.mono b1.size))
    go_wp2_with fail
    rw [Exit.noGoto_ret]
    go_ret2
    exact ⟨rfl, HB.out⟩

set_option maxHeartbeats 8000000 in
theorem meet_yes (V U : Option Addr) (c d : Nat) (a b : List Sp) (w : World) (hV : Ps w V a) (hU : Ps w U b) (hUd : b.length ≤ d) (hia : InL a) (hib : InL b) (hla : a.length ≤ 100000) (hlb : b.length ≤ 100000) (hsa : Snd a) (hsb : Snd b) :
    Calls Try.prog 14 #[.slice V a.length c, .slice U b.length d] w fun e w' => (∃ R A c', MeetR a b R ∧ R.length ≤ a.length + b.length ∧ e = .returned (.tuple #[.slice A R.length c', .int .u16 0]) ∧ OwnR w' w.heap.size 24 encS 2 (.slice A R.length c') R) ∧ Below w.heap.size w w' := by
  have HS := sound_any V c a w hV hia (by omega)
  have HS2 := fun (W : World) (hb : Below w.heap.size w W) => sound_any U d b W (hU.below hb (Nat.le_refl _)) hib (by omega)
  rw [show sndB a = true from decide_eq_true hsa] at HS
  rw [show sndB b = true from decide_eq_true hsb] at HS2
  have HS := Lib.hid HS
  have HS2 := Lib.hid HS2
  have HV := Lib.hid hV
  have HU := Lib.hid hU
  have HI := Lib.hid (And.intro hia hib)
  have HSd := Lib.hid (And.intro hsa hsb)
  clear hV hU hia hib hsa hsb
  go_enter Try.func14, Try.ntmps14
  go_wp2_with fail
  go_step3
  go_wp2_with fail
  refine HS.out.mono ?_
  rintro e w1 ⟨rfl, b1⟩
  have HC := Lib.hid (HS2.out w1 b1)
  go_wp2_with fail
  refine HC.out.mono ?_
  rintro e w2 ⟨rfl, b2⟩
  have HB2 := Lib.hid (b1.trans (b2.mono b1.size))
  clear b1 b2 HC HS HS2
  go_wp2_with fail
  go_step3
  go_wp2_with fail
  go_loopg [6, 7, 23] a.length (fun g s6 s7 s23 wr => ∃ (i j : Nat) (R T : List Sp) (A2 V2 : Option Addr) (c2 c3 : Nat), i + g = a.length ∧ s23 = .int .i64 i ∧ s6 = .slice A2 R.length c2 ∧ s7 = .slice V2 T.length c3 ∧ T.length ≤ c3 ∧ j ≤ b.length ∧ Hid (T = b.drop j) ∧ Hid (MO a b R i j) ∧ Hid (OwnR wr w.heap.size 24 encS 2 (.slice A2 R.length c2) R) ∧ Hid (Ps w V2 T) ∧ Hid (Below w.heap.size w wr))
  case atStart => exact ⟨0, 0, [], b, none, U, 0, d, by omega, rfl, rfl, rfl, hUd, Nat.zero_le _, Lib.hid rfl, Lib.hid (MO.zero a b), Lib.hid (OwnR.nil _ _ _ _ _), HU, HB2⟩
  case round =>
    obtain ⟨i, j, R, T, A2, V2, c2, c3, hig, rfl, rfl, rfl, hTc, hjb, HT, HM, HO, HP, HB⟩ := hrel
    obtain ⟨wo, hwo⟩ : ∃ wo, wo = wr := ⟨_, rfl⟩
    subst hwo
    have hRl : R.length ≤ 200000 := by have := HM.out.len; omega
    cases gk with
    | zero =>
      have hia : i = a.length := by omega
      have hnl : ¬ ((i : Int) < a.length) := by omega
      have hR : Hid (MeetR a b R ∧ R.length ≤ a.length + b.length) := Lib.hid (by
        have hm := HM.out
        rw [hia] at hm
        exact ⟨⟨hm.snd, hm.done, inl_mem hm.snd (fun t h => ((hm.done t).1 h).1) HI.out.1⟩, by have := hm.len; omega⟩)
      clear hia
      go_wp2_with fail
      first | rw [Exit.noGoto_ret] | skip
      go_ret2
      exact ⟨⟨R, A2, c2, hR.out.1, hR.out.2, rfl, HO.out⟩, HB.out⟩
    | succ G =>
      have hlt : i < a.length := by omega
      obtain ⟨p, q, rfl, hc⟩ := ps_at HV.out i a[i] (List.getElem?_eq_getElem hlt)
      have hX := List.getElem?_eq_getElem hlt
      obtain ⟨x, hx⟩ : ∃ x, x = a[i] := ⟨_, rfl⟩
      rw [← hx] at hc hX
      have HMI := Lib.hid (HM.out.into hX)
      obtain ⟨sf, st⟩ := x
      dsimp only at hc
      have C := hc wo HB.out
      clear hc hx hX
      have hil : (i : Int) < a.length := by omega
      have HQ0 := Lib.hid (((Qs.zero w).cons (k := qZ 0) (Nat.zero_le _)))
      have HQ1 : Hid (Qs (wo.alloc (.cells #[.int .i64 sf, .int .i64 st] 24)) [qB wo.heap.size 24 #[.int .i64 sf, .int .i64 st], qW w w.heap.size (Nat.le_refl _)]) := Lib.hid (((Qs.nil wo).cons (k := qW w w.heap.size (Nat.le_refl _)) ⟨HB.out, HB.out.size⟩).box _ _)
      have hszo := HB.out.size
      go_wp2_with fail
      clear C
      go_loopg [6, 7] (T.length) (fun g s6 s7 wx => ∃ (j : Nat) (R T : List Sp) (A2 V2 : Option Addr) (c2 c3 : Nat), T.length = g ∧ s6 = .slice A2 R.length c2 ∧ s7 = .slice V2 T.length c3 ∧ T.length ≤ c3 ∧ j ≤ b.length ∧ Hid (T = b.drop j) ∧ Hid (MI a b R i j (sf, st)) ∧ Hid (OwnR wx w.heap.size 24 encS 2 (.slice A2 R.length c2) R ∧ ∀ k, (Value.slice A2 R.length c2).ownBlock = some k → k ≠ wo.heap.size) ∧ Hid (Ps w V2 T) ∧ Hid (Qs wx [qB wo.heap.size 24 #[.int .i64 sf, .int .i64 st], qW w w.heap.size (Nat.le_refl _)]))
      case atStart => exact ⟨j, R, T, A2, V2, c2, c3, rfl, rfl, rfl, hTc, hjb, HT, HMI, Lib.hid ⟨HO.out.alloc _, fun k hk e => by have := (World.ownsRow.lt HO.out k hk).2; omega⟩, HP, HQ1⟩
      case round =>
        obtain ⟨j, R, T, A2, V2, c2, c3, hTg, rfl, rfl, hTc, hjb, HT, HM, HO, HP, HQ⟩ := hrel
        have hRl : R.length ≤ 200000 := by have := HM.out.len; omega
        have hTl : T.length ≤ 100000 := by rw [HT.out, List.length_drop]; omega
        rcases T with _ | ⟨y, T⟩
        · have hjl : j = b.length := by
            have := congrArg List.length HT.out
            rw [List.length_drop] at this
            simp at this; omega
          have hR : Hid (MeetR a b R ∧ R.length ≤ a.length + b.length) := Lib.hid (by
            have hm := HM.out
            rw [hjl] at hm
            exact ⟨⟨hm.snd, hm.done, inl_mem hm.snd (fun t h => ((hm.done t).1 h).1) HI.out.1⟩, by have := hm.len; omega⟩)
          have HBx := Lib.hid (HQ.out.top 1)
          clear hjl hTg
          go_wp2_with fail
          rw [Exit.noGoto_ret]
          go_ret2
          exact ⟨⟨R, A2, c2, hR.out.1, hR.out.2, rfl, HO.out.1⟩, HBx.out⟩
        · obtain ⟨p', q', rfl, hc⟩ := ps_at HP.out 0 y rfl
          have hY : b[j]? = some y := by
            have := congrArg List.head? HT.out
            rw [List.head?_drop] at this
            exact this.symm
          have HT2 := Lib.hid (show T = b.drop (j + 1) by
            have := congrArg List.tail HT.out
            simpa [List.tail_drop] using this)
          have hjl : j < b.length := (List.getElem?_eq_some_iff.1 hY).1
          have HY := Lib.hid hY
          have HTail : Hid (Ps w (some (⟨p', q', none⟩ : Addr)) []) := Lib.hid (Rw.nil _ _ _ _)
          have HTail2 := Lib.hid (show Ps w (some ((⟨p', q', none⟩ : Addr).add 2)) T from rw_drop HP.out 1)
          simp only [List.length_cons] at hTg hTc hTl
          subst hTg
          obtain ⟨of, ot⟩ := y
          dsimp only at hc
          simp only [Nat.zero_mul, Nat.add_zero] at hc
          have C := hc wr (HQ.out.top 1)
          clear hc hY
          go_upto_region 10 with fail
          have HB9 := Lib.hid (HQ.out.box #[.int .i64 of, .int .i64 ot] 24)
          clear C
          have C := HB9.out.says
          simp only [sayAll, cellsSay, qB, qW, Nat.reduceAdd, and_true, true_and] at C
          go_cut [10, 11] (fun s10 s11 wx => s10 = .pointer (some ⟨wr.heap.size, 0, none⟩) ∧ s11 = .pointer (some ⟨wr.heap.size + 1, 0, none⟩) ∧ ∃ M1 M2 : Int, Hid (M1 = max sf of ∧ M2 = min st ot) ∧ Hid (Below wr.heap.size wr wx) ∧ Hid (Qs wx [qB (wr.heap.size + 1) 24 #[.int .i64 M1, .int .i64 M2], qB wr.heap.size 24 #[.int .i64 of, .int .i64 ot], qB wo.heap.size 24 #[.int .i64 sf, .int .i64 st], qW w w.heap.size (Nat.le_refl _)]))
          case first =>
            by_cases hm1 : sf < of
            · by_cases hm2 : ot < st
              · go_wp2_with fail
                go_meet
                refine ⟨rfl, rfl, of, ot, Lib.hid ⟨by omega, by omega⟩, Lib.hid (below_alloc2 wr _ _), Lib.hid ?_⟩
                have := HB9.out.box #[.int .i64 of, .int .i64 ot] 24
                rw [World.size_alloc] at this
                exact this
              · go_wp2_with fail
                go_meet
                refine ⟨rfl, rfl, of, st, Lib.hid ⟨by omega, by omega⟩, Lib.hid (below_alloc2 wr _ _), Lib.hid ?_⟩
                have := HB9.out.box #[.int .i64 of, .int .i64 st] 24
                rw [World.size_alloc] at this
                exact this
            · by_cases hm2 : ot < st
              · go_wp2_with fail
                go_meet
                refine ⟨rfl, rfl, sf, ot, Lib.hid ⟨by omega, by omega⟩, Lib.hid (below_alloc2 wr _ _), Lib.hid ?_⟩
                have := HB9.out.box #[.int .i64 sf, .int .i64 ot] 24
                rw [World.size_alloc] at this
                exact this
              · go_wp2_with fail
                go_meet
                refine ⟨rfl, rfl, sf, st, Lib.hid ⟨by omega, by omega⟩, Lib.hid (below_alloc2 wr _ _), Lib.hid ?_⟩
                have := HB9.out.box #[.int .i64 sf, .int .i64 st] 24
                rw [World.size_alloc] at this
                exact this
          case rest =>
            obtain ⟨rfl, rfl, M1, M2, HMM, HBw, HQ2⟩ := hcut
            clear C HB9
            have hq := (HQ2.out.blk 0).lt
            have HO2 := Lib.hid (HO.out.1.below HBw.out)
            have C := HQ2.out.says
            simp only [sayAll, cellsSay, qB, qW, Nat.reduceAdd, and_true, true_and] at C
            have hwo : wo.heap.size < wr.heap.size := (HQ.out.blk 0).lt
            by_cases hgo : st < ot
            · have hd2 : decide (st < ot) = true := decide_eq_true hgo
              have HN := Lib.hid (HM.out.goOn HSd.out.1 HSd.out.2 HY.out hgo)
              clear hgo
              by_cases hle : M1 ≤ M2
              · have hd : decide (M1 ≤ M2) = true := decide_eq_true hle
                rw [both_yes HMM.out.1 HMM.out.2 hle] at HN
                clear hle
                go_upto_region 13 with (at_builtin; go_must (refine appR1L Try.eltS _ rfl (.tmp 49) (.tmp 51) rfl w.heap.size _ R rfl (HO2.out.alloc _) wc.heap.size 1 (M1, M2) 24 _ rfl (Blk.new wc _ _) rfl (by unfold maxLen; omega) (by omega) (by have := (HQ2.out.top 3).size; simp; omega) ?_); intro g5 c5 w5 hown5 hg5 hat5 hlt5)
                have HK5 := Lib.hid ((HQ2.out.alloc _).grow hg5 (fun g e => by
                  have h1 := World.ownsRow.lt HO.out.1 g e
                  have h2 := HO.out.2 g e
                  simp only [apAll, qB, qW, and_true]; omega))
                have HO5 := Lib.hid hown5
                clear hown5 hg5 hat5 hlt5 C
                have C := HK5.out.says
                simp only [sayAll, cellsSay, qB, qW, Nat.reduceAdd, and_true, true_and] at C
                have z1 : wr.heap.size < w5.heap.size := (HK5.out.blk 1).lt
                have z2 : wo.heap.size < w5.heap.size := (HK5.out.blk 2).lt
                go_wp2_with fail
                go_roundg G
                case measure => omega
                case rel => exact ⟨i + 1, j, R ++ [(M1, M2)], (of, ot) :: T, some ⟨g5, 0, none⟩, some ⟨p', q', none⟩, c5, c3, by omega, by go_num, by simp, by simp, by simpa using hTc, hjb, HT, HN, Lib.hid (by simpa using HO5.out), HP, Lib.hid (HK5.out.top 3)⟩
              · have hd : decide (M1 ≤ M2) = false := decide_eq_false hle
                rw [both_no HMM.out.1 HMM.out.2 hle, List.append_nil] at HN
                clear hle
                go_wp2_with fail
                go_roundg G
                case measure => omega
                case rel => exact ⟨i + 1, j, R, (of, ot) :: T, A2, some ⟨p', q', none⟩, c2, c3, by omega, by go_num, rfl, by simp, by simpa using hTc, hjb, HT, HN, HO2, HP, Lib.hid (HQ2.out.top 3)⟩
            · have hd2 : decide (st < ot) = false := decide_eq_false hgo
              have HN := Lib.hid (HM.out.next HSd.out.1 HSd.out.2 HY.out (by simp only; omega))
              clear hgo
              have hfin : Hid (∀ (A5 : Option Addr) (c5 n5 : Nat) (w5 : World) (P : List Sp) (V5 : Option Addr), n5 = P.length → MI a b P i (j + 1) (sf, st) → OwnR w5 w.heap.size 24 encS 2 (.slice A5 n5 c5) P → (∀ k, (Value.slice A5 n5 c5).ownBlock = some k → k ≠ wo.heap.size) → Ps w V5 T → Qs w5 [qB wo.heap.size 24 #[.int .i64 sf, .int .i64 st], qW w w.heap.size (Nat.le_refl _)] →
                  ∃ (j' : Nat) (R' T' : List Sp) (A' V' : Option Addr) (c' c'' : Nat), T'.length = T.length ∧ Value.slice A5 n5 c5 = .slice A' R'.length c' ∧ Value.slice V5 T.length (c3 - 1) = .slice V' T'.length c'' ∧ T'.length ≤ c'' ∧ j' ≤ b.length ∧ Hid (T' = b.drop j') ∧ Hid (MI a b R' i j' (sf, st)) ∧ Hid (OwnR w5 w.heap.size 24 encS 2 (.slice A' R'.length c') R' ∧ ∀ k, (Value.slice A' R'.length c').ownBlock = some k → k ≠ wo.heap.size) ∧ Hid (Ps w V' T') ∧ Hid (Qs w5 [qB wo.heap.size 24 #[.int .i64 sf, .int .i64 st], qW w w.heap.size (Nat.le_refl _)])) := Lib.hid (fun A5 c5 n5 w5 P V5 hn h1 h2 h3 h4 h5 => by
                subst hn
                exact ⟨j + 1, P, T, A5, V5, c5, c3 - 1, rfl, rfl, rfl, by omega, by omega, HT2, Lib.hid h1, Lib.hid ⟨h2, h3⟩, Lib.hid h4, Lib.hid h5⟩)
              have hcl : 1 ≤ c3 := by omega
              by_cases hle : M1 ≤ M2
              · have hd : decide (M1 ≤ M2) = true := decide_eq_true hle
                rw [both_yes HMM.out.1 HMM.out.2 hle] at HN
                clear hle
                go_upto_region 13 with (at_builtin; go_must (refine appR1L Try.eltS _ rfl (.tmp 49) (.tmp 51) rfl w.heap.size _ R rfl (HO2.out.alloc _) wc.heap.size 1 (M1, M2) 24 _ rfl (Blk.new wc _ _) rfl (by unfold maxLen; omega) (by omega) (by have := (HQ2.out.top 3).size; simp; omega) ?_); intro g5 c5 w5 hown5 hg5 hat5 hlt5)
                have HK5 := Lib.hid ((HQ2.out.alloc _).grow hg5 (fun g e => by
                  have h1 := World.ownsRow.lt HO.out.1 g e
                  have h2 := HO.out.2 g e
                  simp only [apAll, qB, qW, and_true]; omega))
                have HO5 := Lib.hid hown5
                have HNE := Lib.hid (show ∀ k, (Value.slice (some ⟨g5, 0, none⟩) (R.length + 1) c5).ownBlock = some k → k ≠ wo.heap.size from fun k e e3 => by
                  have e2 : g5 = k := by simpa [Value.ownBlock] using e
                  rcases hat5 with h6 | h6
                  · exact HO.out.2 g5 h6 (by omega)
                  · simp at h6; omega)
                clear hown5 hg5 hat5 hlt5 C
                have C := HK5.out.says
                simp only [sayAll, cellsSay, qB, qW, Nat.reduceAdd, and_true, true_and] at C
                have z1 : wr.heap.size < w5.heap.size := (HK5.out.blk 1).lt
                have z2 : wo.heap.size < w5.heap.size := (HK5.out.blk 2).lt
                by_cases hc1 : c3 = 1
                · have hT0 : T = [] := List.eq_nil_of_length_eq_zero (by omega)
                  subst hc1
                  subst hT0
                  go_wp2_with fail
                  go_roundg 0
                  case measure => omega
                  case rel => exact hfin.out _ _ _ _ (R ++ [(M1, M2)]) _ (by simp) HN.out HO5.out HNE.out HTail.out HK5.out.tail.tail
                · have hc2 : 1 < c3 := by omega
                  go_wp2_with fail
                  go_roundg T.length
                  case measure => omega
                  case rel => exact hfin.out _ _ _ _ (R ++ [(M1, M2)]) _ (by simp) HN.out HO5.out HNE.out HTail2.out HK5.out.tail.tail
              · have hd : decide (M1 ≤ M2) = false := decide_eq_false hle
                rw [both_no HMM.out.1 HMM.out.2 hle, List.append_nil] at HN
                clear hle
                by_cases hc1 : c3 = 1
                · have hT0 : T = [] := List.eq_nil_of_length_eq_zero (by omega)
                  subst hc1
                  subst hT0
                  go_wp2_with fail
                  go_roundg 0
                  case measure => omega
                  case rel => exact hfin.out _ _ _ _ R _ rfl HN.out HO2.out HO.out.2 HTail.out HQ2.out.tail.tail
                · have hc2 : 1 < c3 := by omega
                  go_wp2_with fail
                  go_roundg T.length
                  case measure => omega
                  case rel => exact hfin.out _ _ _ _ R _ rfl HN.out HO2.out HO.out.2 HTail2.out HQ2.out.tail.tail

end Go.Proofs.Ytfbnobhecfgahaa
