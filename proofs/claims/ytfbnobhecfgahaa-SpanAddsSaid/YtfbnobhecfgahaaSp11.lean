/- Layer 23: Drop of the document. -/
import Derived.Test.YtfbnobhecfgahaaSp9
set_option linter.unusedSimpArgs false
set_option linter.unusedVariables false
namespace Go.Proofs.Ytfbnobhecfgahaa
open Go.RowKit
set_option maxRecDepth 100000

theorem rdrop_no (V : Option Addr) (c : Nat) (l : List Sp) (s1 s2 : Int) (w : World) (hV : Ps w V l) (hin : InL l) (hl : l.length ≤ 1000000) (hno : s2 < s1 ∨ ¬ Snd l) :
    Calls Try.prog 24 #[.slice V l.length c, .agg #[.int .i64 s1, .int .i64 s2]] w fun e w' => e = .returned (.tuple #[.slice none 0 0, .int .i64 1]) ∧ Below w.heap.size w w' := by
  have HK := Lib.hid ((Qs.zero w).box #[.int .i64 s1, .int .i64 s2] 24)
  have hS := fun (W : World) (hb : Below w.heap.size w W) => rsound_any V c l W (hV.below hb (Nat.le_refl _)) hin hl
  have HS := Lib.hid (hS _ (HK.out.top 1))
  by_cases h : Snd l
  · rw [show sndB l = true from decide_eq_true h] at HS
    have hd : decide (s2 < s1) = true := decide_eq_true (by rcases hno with h1 | h1; exact h1; exact absurd h h1)
    clear hno h hV hin hS
    go_enter Try.func24, Try.ntmps24
    go_wp2_with fail
    refine HS.out.mono ?_
    rintro e w1 ⟨rfl, b1⟩
    have HK1 := Lib.hid (HK.out.go b1)
    clear b1 HS
    have C := HK1.out.says
    simp only [sayAll, cellsSay, qB, qW, Nat.reduceAdd, and_true, true_and] at C
    go_wp2_with fail
    go_ret2
    exact ⟨rfl, HK1.out.top 1⟩
  · rw [show sndB l = false from decide_eq_false h] at HS
    clear hno h hV hin hS
    go_enter Try.func24, Try.ntmps24
    go_wp2_with fail
    refine HS.out.mono ?_
    rintro e w1 ⟨rfl, b1⟩
    have HK1 := Lib.hid (HK.out.go b1)
    clear b1 HS
    go_wp2_with fail
    go_ret2
    exact ⟨rfl, HK1.out.top 1⟩

set_option maxHeartbeats 8000000 in
theorem rdrop_yes (V : Option Addr) (c : Nat) (l : List Sp) (s1 s2 : Int) (w : World) (hV : Ps w V l) (hin : InL l) (hl : l.length ≤ 99999) (hs : Snd l) (h12 : s1 ≤ s2) (hi1 : In s1) (hi2 : In s2) :
    Calls Try.prog 24 #[.slice V l.length c, .agg #[.int .i64 s1, .int .i64 s2]] w fun e w' => (∃ R A c', DO l (s1, s2) R l.length ∧ e = .returned (.tuple #[.slice A R.length c', .int .i64 0]) ∧ OwnR w' w.heap.size 24 encS 2 (.slice A R.length c') R) ∧ Below w.heap.size w w' := by
  have K := (Qs.zero w).box #[.int .i64 s1, .int .i64 s2] 24
  have hS := rsound_any V c l _ (hV.below (K.top 1) (Nat.le_refl _)) hin (by omega)
  rw [show sndB l = true from decide_eq_true hs] at hS
  have HS := Lib.hid hS
  have HV := Lib.hid hV
  have HK := Lib.hid K
  have HSd := Lib.hid hs
  have HI := Lib.hid (And.intro hin (And.intro hi1 hi2))
  have hd : decide (s2 < s1) = false := decide_eq_false (by omega)
  clear hV hin hs hi1 hi2 hS K
  go_enter Try.func24, Try.ntmps24
  go_wp2_with fail
  refine HS.out.mono ?_
  rintro e w1 ⟨rfl, b1⟩
  have HK1 := Lib.hid (HK.out.go b1)
  clear b1 HS HK
  have C := HK1.out.says
  simp only [sayAll, cellsSay, qB, qW, Nat.reduceAdd, and_true, true_and] at C
  have hz1 : w.heap.size < w1.heap.size := (HK1.out.blk 0).lt
  go_wp2_with fail
  go_loopw [7, 8] (fun s7 s8 wr => ∃ (k : Nat) (R : List Sp) (A2 : Option Addr) (c2 : Nat), k ≤ l.length ∧ s8 = .int .i64 k ∧ s7 = .slice A2 R.length c2 ∧ Hid (DO l (s1, s2) R k) ∧ Hid (OwnR wr (w.heap.size + 1) 24 encS 2 (.slice A2 R.length c2) R) ∧ Hid (Qs wr [qB w.heap.size 24 #[.int .i64 s1, .int .i64 s2], qW w w.heap.size (Nat.le_refl _)]))
    (fun _ s8 _ => l.length - (intOf s8).toNat)
  case atStart => exact ⟨0, [], none, 0, Nat.zero_le _, rfl, rfl, Lib.hid (DO.zero l _), Lib.hid (OwnR.nil _ _ _ _ _), HK1⟩
  case round =>
    obtain ⟨k, R, A2, c2, hk, rfl, rfl, HD, HO, HQ⟩ := hrel
    clear C
    have hRl : R.length ≤ 200000 := by have := HD.out.len; omega
    have hsz : w.heap.size < wr.heap.size := (HQ.out.blk 0).lt
    by_cases hlt : k < l.length
    · obtain ⟨p, o, rfl, hc⟩ := ps_at HV.out k l[k] (List.getElem?_eq_getElem hlt)
      have HX := Lib.hid (List.getElem?_eq_getElem hlt)
      have hxx := HSd.out.1 l[k] (List.getElem_mem hlt)
      have hxi := HI.out.1 l[k] (List.getElem_mem hlt)
      obtain ⟨x, hx⟩ : ∃ x, x = l[k] := ⟨_, rfl⟩
      rw [← hx] at hc HX hxx hxi
      obtain ⟨xf, xt⟩ := x
      dsimp only at hc hxx hxi
      have HXX := Lib.hid (And.intro hxx (And.intro hxi HI.out.2))
      have D := hc wr (HQ.out.top 1)
      have HJ := Lib.hid (HD.out.step HSd.out h12 HX.out)
      clear hc hx hxx hxi
      have hkl : (k : Int) < l.length := by omega
      have HX1 := Lib.hid (HQ.out.box #[.int .i64 xf, .int .i64 xt] 24)
      have C := HX1.out.says
      simp only [sayAll, cellsSay, qB, qW, Nat.reduceAdd, and_true, true_and] at C
      have HF : Hid (∀ (g4 c4 n4 : Nat) (w4 : World) (P : List Sp), n4 = (R ++ P).length → DO l (s1, s2) (R ++ P) (k + 1) → OwnR w4 (w.heap.size + 1) 24 encS 2 (.slice (some ⟨g4, 0, none⟩) n4 c4) (R ++ P) → Qs w4 [qB w.heap.size 24 #[.int .i64 s1, .int .i64 s2], qW w w.heap.size (Nat.le_refl _)] →
          ∃ (k' : Nat) (R' : List Sp) (A' : Option Addr) (c' : Nat), k' ≤ l.length ∧ (Value.int .i64 ((k : Int) + 1) = .int .i64 k') ∧ Value.slice (some ⟨g4, 0, none⟩) n4 c4 = .slice A' R'.length c' ∧ Hid (DO l (s1, s2) R' k') ∧ Hid (OwnR w4 (w.heap.size + 1) 24 encS 2 (.slice A' R'.length c') R') ∧ Hid (Qs w4 [qB w.heap.size 24 #[.int .i64 s1, .int .i64 s2], qW w w.heap.size (Nat.le_refl _)])) :=
        Lib.hid (fun g4 c4 n4 w4 P hn h1 h2 h3 => by
          subst hn
          exact ⟨k + 1, R ++ P, _, c4, by omega, by go_num, rfl, Lib.hid h1, Lib.hid h2, Lib.hid h3⟩)
      by_cases ha : xt < s1
      · have d1 : decide (xt < s1) = true := decide_eq_true ha
        have HP := Lib.hid (show dropP (s1, s2) (xf, xt) = [(xf, xt)] by unfold dropP; rw [if_pos (.inl ha)])
        rw [HP.out] at HJ
        clear ha
        have HB4 := Lib.hid (HX1.out.box #[.int .i64 xf, .int .i64 xt] 24)
        go_wp2_with (at_builtin; go_must (refine appR1L Try.eltS _ rfl (.tmp 43) (.tmp 45) rfl (w.heap.size + 1) _ R rfl ((HO.out.alloc _).alloc _) (wr.heap.size + 1) 1 (xf, xt) 24 _ rfl (by have := HB4.out.blk 0; rw [World.size_alloc] at this; exact this) rfl (by unfold maxLen; omega) (by omega) (by simp; omega) ?_); intro g5 c5 w5 hown5 hg5 _ _)
        have HK5 := Lib.hid (HB4.out.tail.grow hg5 (fun g e => by have := World.ownsRow.lt HO.out g e; simp only [apAll, qB, qW, and_true]; omega))
        have HO5 := Lib.hid hown5
        clear hown5 hg5 C
        go_roundw
        case measure => simp [intOf]; omega
        case rel => exact HF.out _ _ _ _ [(xf, xt)] (by simp) (by exact HJ.out) HO5.out HK5.out.tail
      · have d1 : decide (xt < s1) = false := decide_eq_false ha
        by_cases hb : s2 < xf
        · have d2 : decide (s2 < xf) = true := decide_eq_true hb
          have HP := Lib.hid (show dropP (s1, s2) (xf, xt) = [(xf, xt)] by unfold dropP; rw [if_pos (.inr hb)])
          rw [HP.out] at HJ
          clear ha hb
          have HB4 := Lib.hid (HX1.out.box #[.int .i64 xf, .int .i64 xt] 24)
          go_wp2_with (at_builtin; go_must (refine appR1L Try.eltS _ rfl (.tmp 43) (.tmp 45) rfl (w.heap.size + 1) _ R rfl ((HO.out.alloc _).alloc _) (wr.heap.size + 1) 1 (xf, xt) 24 _ rfl (by have := HB4.out.blk 0; rw [World.size_alloc] at this; exact this) rfl (by unfold maxLen; omega) (by omega) (by simp; omega) ?_); intro g5 c5 w5 hown5 hg5 _ _)
          have HK5 := Lib.hid (HB4.out.tail.grow hg5 (fun g e => by have := World.ownsRow.lt HO.out g e; simp only [apAll, qB, qW, and_true]; omega))
          have HO5 := Lib.hid hown5
          clear hown5 hg5 C
          go_roundw
          case measure => simp [intOf]; omega
          case rel => exact HF.out _ _ _ _ [(xf, xt)] (by simp) (by exact HJ.out) HO5.out HK5.out.tail
        · have d2 : decide (s2 < xf) = false := decide_eq_false hb
          rw [show dropP (s1, s2) (xf, xt) = dropM (s1, s2) (xf, xt) (xf, xt) by unfold dropP; rw [if_neg (by simp only; omega)]] at HJ
          unfold dropM at HJ
          by_cases h1 : xf < s1
          · have d3 : decide (xf < s1) = true := decide_eq_true h1
            have hwa : IntKind.i64.wrap (s1 - 1) = s1 - 1 := by have := HXX.out; unfold In at this; rw [IntKind.wrap_i64]; omega
            rw [if_pos (by exact h1)] at HJ
            by_cases h2 : s2 < xt
            · have d4 : decide (s2 < xt) = true := decide_eq_true h2
              have hwb : IntKind.i64.wrap (s2 + 1) = s2 + 1 := by have := HXX.out; unfold In at this; rw [IntKind.wrap_i64]; omega
              rw [if_pos (by exact h2)] at HJ
              clear ha hb h1 h2
              have HB4 := Lib.hid (HX1.out.box #[.int .i64 xf, .int .i64 (s1 - 1)] 24)
              go_upto_region 13 with (at_builtin; go_must (refine appR1L Try.eltS _ rfl (.tmp 52) (.tmp 59) rfl (w.heap.size + 1) _ R rfl ((HO.out.alloc _).alloc _) (wr.heap.size + 1) 1 (xf, (s1 - 1)) 24 _ rfl (by have := HB4.out.blk 0; rw [World.size_alloc] at this; exact this) rfl (by unfold maxLen; omega) (by omega) (by simp; omega) ?_); intro g5 c5 w5 hown5 hg5 hat5 hlt5)
              have HNE := Lib.hid (show (Value.slice (some ⟨g5, 0, none⟩) (R.length + 1) c5).ownBlock ≠ some wr.heap.size from fun e => by
                have e2 : g5 = wr.heap.size := by simpa [Value.ownBlock] using e
                rcases hat5 with h6 | h6
                · have := (World.ownsRow.lt HO.out g5 h6).2; omega
                · simp at h6; omega)
              have HK5 := Lib.hid (HB4.out.tail.grow hg5 (fun g e => by have := World.ownsRow.lt HO.out g e; simp only [apAll, qB, qW, and_true]; omega))
              have HO5 := Lib.hid hown5
              clear hown5 hg5 C
              have C := HK5.out.says
              simp only [sayAll, cellsSay, qB, qW, Nat.reduceAdd, and_true, true_and] at C
              have hz5 : wr.heap.size < w5.heap.size := (HK5.out.blk 0).lt
              have HB6 := Lib.hid (HK5.out.box #[.int .i64 (s2 + 1), .int .i64 xt] 24)
              go_wp2_with (at_builtin; go_must (refine appR1L Try.eltS _ rfl (.tmp 66) (.tmp 73) rfl (w.heap.size + 1) _ (R ++ [(xf, s1 - 1)]) rfl (OwnR.alloc HO5.out _) w5.heap.size 1 (s2 + 1, xt) 24 _ rfl (Blk.new w5 _ _) rfl (by unfold maxLen; simp; omega) (by simp; omega) (by simp; omega) ?_); intro g6 c6 w6 hown6 hg6 _ _)
              have HK6 := Lib.hid (HB6.out.tail.grow hg6 (fun g e => by
                have h7 := World.ownsRow.lt HO5.out g e
                have h8 : g ≠ wr.heap.size := fun e2 => by
                  subst e2
                  exact HNE.out e
                simp only [apAll, qB, qW, and_true]; omega))
              have HO6 := Lib.hid hown6
              clear hown6 hg6 C
              go_roundw
              case measure => simp [intOf]; omega
              case rel => exact HF.out _ _ _ _ ([(xf, s1 - 1)] ++ [(s2 + 1, xt)]) (by simp) HJ.out (by simpa using HO6.out) HK6.out.tail
            · have d4 : decide (s2 < xt) = false := decide_eq_false h2
              rw [if_neg (by exact h2), List.append_nil] at HJ
              clear ha hb h1 h2
              have HB4 := Lib.hid (HX1.out.box #[.int .i64 xf, .int .i64 (s1 - 1)] 24)
              go_upto_region 13 with (at_builtin; go_must (refine appR1L Try.eltS _ rfl (.tmp 52) (.tmp 59) rfl (w.heap.size + 1) _ R rfl ((HO.out.alloc _).alloc _) (wr.heap.size + 1) 1 (xf, (s1 - 1)) 24 _ rfl (by have := HB4.out.blk 0; rw [World.size_alloc] at this; exact this) rfl (by unfold maxLen; omega) (by omega) (by simp; omega) ?_); intro g5 c5 w5 hown5 hg5 _ _)
              have HK5 := Lib.hid (HB4.out.tail.grow hg5 (fun g e => by have := World.ownsRow.lt HO.out g e; simp only [apAll, qB, qW, and_true]; omega))
              have HO5 := Lib.hid hown5
              clear hown5 hg5 C
              have C := HK5.out.says
              simp only [sayAll, cellsSay, qB, qW, Nat.reduceAdd, and_true, true_and] at C
              have hz5 : wr.heap.size < w5.heap.size := (HK5.out.blk 0).lt
              go_wp2_with fail
              go_roundw
              case measure => simp [intOf]; omega
              case rel => exact HF.out _ _ _ _ [(xf, s1 - 1)] (by simp) (by exact HJ.out) HO5.out HK5.out.tail
          · have d3 : decide (xf < s1) = false := decide_eq_false h1
            rw [if_neg (by exact h1), List.nil_append] at HJ
            by_cases h2 : s2 < xt
            · have d4 : decide (s2 < xt) = true := decide_eq_true h2
              have hwb : IntKind.i64.wrap (s2 + 1) = s2 + 1 := by have := HXX.out; unfold In at this; rw [IntKind.wrap_i64]; omega
              rw [if_pos (by exact h2)] at HJ
              clear ha hb h1 h2
              have HB4 := Lib.hid (HX1.out.box #[.int .i64 (s2 + 1), .int .i64 xt] 24)
              go_wp2_with (at_builtin; go_must (refine appR1L Try.eltS _ rfl (.tmp 66) (.tmp 73) rfl (w.heap.size + 1) _ R rfl ((HO.out.alloc _).alloc _) (wr.heap.size + 1) 1 ((s2 + 1), xt) 24 _ rfl (by have := HB4.out.blk 0; rw [World.size_alloc] at this; exact this) rfl (by unfold maxLen; omega) (by omega) (by simp; omega) ?_); intro g5 c5 w5 hown5 hg5 _ _)
              have HK5 := Lib.hid (HB4.out.tail.grow hg5 (fun g e => by have := World.ownsRow.lt HO.out g e; simp only [apAll, qB, qW, and_true]; omega))
              have HO5 := Lib.hid hown5
              clear hown5 hg5 C
              go_roundw
              case measure => simp [intOf]; omega
              case rel => exact HF.out _ _ _ _ [((s2 + 1), xt)] (by simp) (by exact HJ.out) HO5.out HK5.out.tail
            · have d4 : decide (s2 < xt) = false := decide_eq_false h2
              rw [if_neg (by exact h2), List.append_nil] at HJ
              clear ha hb h1 h2
              go_wp2_with fail
              go_roundw
              case measure => simp [intOf]; omega
              case rel => exact ⟨k + 1, R, A2, c2, by omega, by go_num, rfl, HJ, Lib.hid (HO.out.alloc _), Lib.hid HX1.out.tail⟩
    · obtain rfl : k = l.length := by omega
      go_wp2_with fail
      go_ret2
      exact ⟨⟨R, A2, c2, HD.out, rfl, HO.out.mono (by omega)⟩, HQ.out.top 1⟩

end Go.Proofs.Ytfbnobhecfgahaa
