/- Layer 13: walk of WinOrder. -/
import Derived.Test.YtlchnpmiaemobaaWin19
set_option linter.unusedSimpArgs false
set_option linter.unusedVariables false
namespace Go.Proofs.Ytlchnpmiaemobaa
open Go.RowKit
set_option maxRecDepth 100000

/-- what came, ahead of call k -/
def cameL (b : Int) : List PC → List OC → List PC
  | _, [] => []
  | l, o :: L => (if o.kd % 6 = 3 ∨ o.kd % 6 = 4 ∨ o.kd % 6 = 5 then [] else if addB b l o.p then [o.p] else []) ++ cameL b (stepL b l o) L
theorem sub_tail {α : Type} {x y : α} {a b : List α} (h : (x :: a).Sublist (y :: b)) (hne : x ≠ y) : (x :: a).Sublist b := by
  cases h with
  | cons _ h => exact h
  | cons_cons _ h => exact absurd rfl hne
theorem drop_cons {α : Type} {l : List α} {k : Nat} {x : α} (h : l[k]? = some x) : l.drop k = x :: l.drop (k + 1) := by
  obtain ⟨hj, hx⟩ := List.getElem?_eq_some_iff.1 h
  rw [List.drop_eq_getElem_cons hj, hx]

theorem op_at {w : World} {V : Option Addr} {L : List OC} (h : Rw w encO 9 V L) (k : Nat) (x : OC) (hx : L[k]? = some x) : ∃ p o, V = some ⟨p, o, none⟩ ∧ ∀ W : World, Below w.heap.size w W →
    W.cell? ⟨p, o + k * 9, none⟩ = some (.int .u8 x.kd) ∧ W.cell? ⟨p, o + k * 9 + 1, none⟩ = some (.int .u32 x.p.se) ∧ W.cell? ⟨p, o + k * 9 + 2, none⟩ = some (.int .u32 x.p.f0) ∧ W.cell? ⟨p, o + k * 9 + 3, none⟩ = some (.int .u32 x.p.f1) ∧ W.cell? ⟨p, o + k * 9 + 4, none⟩ = some (.int .u32 x.p.f2) ∧ W.cell? ⟨p, o + k * 9 + 5, none⟩ = some (.int .u32 x.p.t0) ∧ W.cell? ⟨p, o + k * 9 + 6, none⟩ = some (.int .u32 x.p.t1) ∧ W.cell? ⟨p, o + k * 9 + 7, none⟩ = some (.int .u32 x.p.t2) ∧ W.cell? ⟨p, o + k * 9 + 8, none⟩ = some (.int .i64 x.p.n) := by
  obtain ⟨p, o, hV, hc⟩ := h k x hx
  have g : ∀ j v, (encO x)[j]? = some v → ∀ W : World, Below w.heap.size w W → W.cell? ⟨p, o + k * 9 + j, none⟩ = some v := fun j v hj W hb => by
    have h1 := hc j v hj
    rw [hb.cell (cell_lt h1)]; exact h1
  exact ⟨p, o, hV, fun W hb => ⟨g 0 _ rfl W hb, g 1 _ rfl W hb, g 2 _ rfl W hb, g 3 _ rfl W hb, g 4 _ rfl W hb, g 5 _ rfl W hb, g 6 _ rfl W hb, g 7 _ rfl W hb, g 8 _ rfl W hb⟩⟩

set_option maxHeartbeats 8000000 in
theorem winOrder_walk (V : Option Addr) (c : Nat) (L : List OC) (w : World) (hV : Rw w encO 9 V L) (hL : L.length ≤ maxLen) (hok : OkO L) :
    Calls Try.prog 3 #[.slice V L.length c] w fun e w' => e = .returned (.bool true) ∧ Below w.heap.size w w' := by
  have HKn := Lib.hid (fun W => known_any W)
  unfold maxLen at hL
  by_cases hlen : 80 < L.length
  · have hd : decide ((80 : Int) < L.length) = true := decide_eq_true (by omega)
    clear hV hok
    go_enter Try.func3, Try.ntmps3
    go_wp2_with fail
    refine (HKn.out _).mono ?_
    rintro e w1 ⟨rfl, b1⟩
    have HB := Lib.hid b1
    clear b1
    go_wp2_with fail
    go_ret
    exact ⟨rfl, HB.out⟩
  · have hl1 : L.length ≤ 80 := by omega
    have hd : decide ((80 : Int) < L.length) = false := decide_eq_false (by omega)
    clear hL hlen
    have HV := Lib.hid hV
    have HO := Lib.hid hok
    clear hV hok
    go_enter Try.func3, Try.ntmps3
    go_wp2_with fail
    refine (HKn.out _).mono ?_
    rintro e w1 ⟨rfl, b1⟩
    have HQ1 := Lib.hid ((Qs.zero w).go b1)
    have z1 := b1.size
    clear b1
    go_wp2_with fail
    refine (w_new 1048576 (by omega) (by omega) HQ1.out (fun k hk => ⟨Nat.le_trans z1 hk, trivial⟩)).mono ?_
    rintro e w2 ⟨rfl, k2⟩
    have H2 := Lib.hid (k2.pushNil w.heap.size 31 encP 8)
    clear k2
    obtain ⟨g, hg⟩ : ∃ g, g = w1.heap.size := ⟨_, rfl⟩
    rw [← hg] at H2
    simp only [← hg]
    clear hg HQ1 z1
    go_wp2_with fail
    go_loopw [4, 5] (fun s4 s5 wr => ∃ (k : Nat) (M : List PC) (A2 : Option Addr) (c2 : Nat), k ≤ L.length ∧ s5 = .int .i64 k ∧ s4 = .slice A2 M.length c2 ∧ M.length ≤ k ∧ Hid ((runL 1048576 L k).Sublist M) ∧
        Hid (One wr [qV w.heap.size 31 encP 8 (.slice A2 M.length c2) M, qW w w.heap.size (Nat.le_refl _)] (oW g 1048576 (runL 1048576 L k))))
      (fun _ s5 _ => L.length - (intOf s5).toNat)
    case atStart => exact ⟨0, [], none, 0, Nat.zero_le _, rfl, rfl, Nat.zero_le _, Lib.hid (List.Sublist.refl _), H2⟩
    case round =>
      obtain ⟨k, M, A2, c2, hk, rfl, rfl, hM, HM, HT⟩ := hrel
      clear H2
      by_cases hlt : k < L.length
      · obtain ⟨p, o, rfl, hcw⟩ := op_at HV.out k L[k] (List.getElem?_eq_getElem hlt)
        have hrs := runL_succ 1048576 L k L[k] (List.getElem?_eq_getElem hlt)
        have hro := runL_ok (b := 1048576) (by omega) L k (by omega)
        have hkd := HO.out L[k] (List.getElem_mem hlt)
        obtain ⟨x, hx⟩ : ∃ x, x = L[k] := ⟨_, rfl⟩
        rw [← hx] at hcw hrs hkd
        clear hx
        obtain ⟨l1, hl1e⟩ : ∃ l1, l1 = runL 1048576 L k := ⟨_, rfl⟩
        rw [← hl1e] at HT hro hrs HM
        have HRo := Lib.hid hro
        have hsz : w.heap.size ≤ wr.heap.size := HT.out.qs.top 1 |>.size
        obtain ⟨kd, se', f0, f1, f2, t0, t1, t2, pn⟩ := x
        dsimp only at hcw hkd
        have HCw := Lib.hid hcw
        have C := hcw wr (HT.out.qs.top 1)
        have hkm : ∀ m : Nat, ((kd : Int) % 6 == (m : Int)) = decide (kd % 6 = m) := fun m => by
          by_cases h : kd % 6 = m
          · rw [decide_eq_true h]; exact beq_iff_eq.2 (by omega)
          · rw [decide_eq_false h]; exact beq_eq_false_iff_ne.2 (by omega)
        have q3 := hkm 3
        have q4 := hkm 4
        have q5 := hkm 5
        have hl1l : l1.length ≤ 80 := by omega
        clear hcw hro hl1e hkm
        have ndr : ∀ (W : World) (a : Addr), W.drew.cell? a = W.cell? a := fun _ _ => rfl
        have d0 : (wr : World).cell? ⟨p, o + k * 9 + 1, none⟩ = some (.int .u32 se') ∧ (wr : World).cell? ⟨p, o + k * 9 + 5, none⟩ = some (.int .u32 t0) ∧ (wr : World).cell? ⟨p, o + k * 9 + 6, none⟩ = some (.int .u32 t1) ∧ (wr : World).cell? ⟨p, o + k * 9 + 7, none⟩ = some (.int .u32 t2) := ⟨C.2.1, C.2.2.2.2.2.1, C.2.2.2.2.2.2.1, C.2.2.2.2.2.2.2.1⟩
        by_cases h34 : kd % 6 = 3 ∨ kd % 6 = 4
        · have hst : runL 1048576 L (k + 1) = l1.filter fun p => !goneA se' t0 t2 p := by rw [hrs]; unfold stepL; rw [if_pos h34]
          have HM2 := Lib.hid (show (runL 1048576 L (k + 1)).Sublist M by rw [hst]; exact (List.filter_sublist).trans HM.out)
          have hA := fun (W : World) (h : One W [qV w.heap.size 31 encP 8 (.slice A2 M.length c2) M, qW w w.heap.size (Nat.le_refl _)] (oW g 1048576 l1)) => w_ack h HRo.out.1 (by omega) se' t0 t1 t2
          rw [← hst] at hA
          have HA := Lib.hid hA
          clear hst hrs hA
          by_cases h3 : kd % 6 = 3
          · rw [decide_eq_true h3] at q3
            clear q4 q5 h3 h34
            go_wp2_with fail
            go_region_held3 (fun w' => w'.cell? ⟨p, o + k * 9 + 1, none⟩ = some (.int .u32 se') ∧ w'.cell? ⟨p, o + k * 9 + 5, none⟩ = some (.int .u32 t0) ∧ w'.cell? ⟨p, o + k * 9 + 6, none⟩ = some (.int .u32 t1) ∧ w'.cell? ⟨p, o + k * 9 + 7, none⟩ = some (.int .u32 t2)) (first | with_reducible exact d0 | with_reducible exact d5 | (simp only [ndr]; with_reducible exact d0))
              ((go_at_call 14; refine (HA.out _ HT.out.drew).mono ?_; rintro e w5 ⟨rfl, k5⟩; have H5 := Lib.hid k5; have c5 := HCw.out w5 (k5.qs.top 1); have d5 : (w5 : World).cell? ⟨p, o + k * 9 + 1, none⟩ = some (.int .u32 se') ∧ (w5 : World).cell? ⟨p, o + k * 9 + 5, none⟩ = some (.int .u32 t0) ∧ (w5 : World).cell? ⟨p, o + k * 9 + 6, none⟩ = some (.int .u32 t1) ∧ (w5 : World).cell? ⟨p, o + k * 9 + 7, none⟩ = some (.int .u32 t2) := ⟨c5.2.1, c5.2.2.2.2.2.1, c5.2.2.2.2.2.2.1, c5.2.2.2.2.2.2.2.1⟩; clear k5 c5))
            all_goals
              go_wp2_with fail
              go_roundw
              case measure => simp [intOf]; omega
              case rel => exact ⟨k + 1, M, A2, c2, by omega, by go_num, rfl, by omega, HM2, H5⟩
          · rw [decide_eq_false h3] at q3
            rw [decide_eq_true (by omega)] at q4
            clear q5 h3 h34
            go_wp2_with fail
            go_region_held3 (fun w' => w'.cell? ⟨p, o + k * 9 + 1, none⟩ = some (.int .u32 se') ∧ w'.cell? ⟨p, o + k * 9 + 5, none⟩ = some (.int .u32 t0) ∧ w'.cell? ⟨p, o + k * 9 + 6, none⟩ = some (.int .u32 t1) ∧ w'.cell? ⟨p, o + k * 9 + 7, none⟩ = some (.int .u32 t2)) (first | with_reducible exact d0 | with_reducible exact d5 | (simp only [ndr]; with_reducible exact d0))
              ((go_at_call 14; refine (HA.out _ HT.out.drew).mono ?_; rintro e w5 ⟨rfl, k5⟩; have H5 := Lib.hid k5; have c5 := HCw.out w5 (k5.qs.top 1); have d5 : (w5 : World).cell? ⟨p, o + k * 9 + 1, none⟩ = some (.int .u32 se') ∧ (w5 : World).cell? ⟨p, o + k * 9 + 5, none⟩ = some (.int .u32 t0) ∧ (w5 : World).cell? ⟨p, o + k * 9 + 6, none⟩ = some (.int .u32 t1) ∧ (w5 : World).cell? ⟨p, o + k * 9 + 7, none⟩ = some (.int .u32 t2) := ⟨c5.2.1, c5.2.2.2.2.2.1, c5.2.2.2.2.2.2.1, c5.2.2.2.2.2.2.2.1⟩; clear k5 c5))
            all_goals
              go_wp2_with fail
              go_roundw
              case measure => simp [intOf]; omega
              case rel => exact ⟨k + 1, M, A2, c2, by omega, by go_num, rfl, by omega, HM2, H5⟩
        · rw [decide_eq_false (by omega)] at q3 q4
          by_cases h5 : kd % 6 = 5
          · rw [decide_eq_true h5] at q5
            have hst : runL 1048576 L (k + 1) = l1.filter fun p => !goneD se' p := by rw [hrs]; unfold stepL; rw [if_neg h34, if_pos h5]
            have HM2 := Lib.hid (show (runL 1048576 L (k + 1)).Sublist M by rw [hst]; exact (List.filter_sublist).trans HM.out)
            have hA := w_drop HT.out HRo.out.1 (by omega) se'
            rw [← hst] at hA
            have HA := Lib.hid hA
            clear hst hrs d0 h5 h34 hA
            go_wp2_with fail
            refine HA.out.mono ?_
            rintro e w5 ⟨rfl, k5⟩
            have H5 := Lib.hid k5
            clear k5 C HA
            go_wp2_with fail
            go_roundw
            case measure => simp [intOf]; omega
            case rel => exact ⟨k + 1, M, A2, c2, by omega, by go_num, rfl, by omega, HM2, H5⟩
          · rw [decide_eq_false h5] at q5
            have hst : runL 1048576 L (k + 1) = addL 1048576 l1 ⟨se', f0, f1, f2, t0, t1, t2, pn⟩ := by rw [hrs]; unfold stepL; rw [if_neg h34, if_neg h5]
            have hA := w_add HT.out HRo.out.1 (by omega) (by omega) ⟨se', f0, f1, f2, t0, t1, t2, pn⟩
            rw [← hst] at hA
            obtain ⟨r, hr⟩ : ∃ r, r = addB 1048576 l1 ⟨se', f0, f1, f2, t0, t1, t2, pn⟩ := ⟨_, rfl⟩
            rw [← hr] at hA
            simp only [encP] at hA
            have HA := Lib.hid hA
            unfold addL at hst
            rw [← hr] at hst
            clear hrs d0 hA h5 h34 hr
            cases r
            · have HM2 := Lib.hid (show (runL 1048576 L (k + 1)).Sublist M by rw [hst]; exact HM.out)
              clear hst
              go_wp2_with fail
              refine HA.out.mono ?_
              rintro e w5 ⟨rfl, k5⟩
              have H5 := Lib.hid k5
              clear k5 C HA
              go_wp2_with fail
              go_roundw
              case measure => simp [intOf]; omega
              case rel => exact ⟨k + 1, M, A2, c2, by omega, by go_num, rfl, by omega, HM2, H5⟩
            · have HM2 := Lib.hid (show (runL 1048576 L (k + 1)).Sublist (M ++ [⟨se', f0, f1, f2, t0, t1, t2, pn⟩]) by rw [hst, if_pos rfl]; exact HM.out.append (List.Sublist.refl _))
              clear hst
              go_wp2_with fail
              refine HA.out.mono ?_
              rintro e w5 ⟨rfl, k5⟩
              have H5 := Lib.hid k5
              clear C
              have C := HCw.out w5 (k5.qs.top 1)
              have hsz5 : w.heap.size ≤ w5.heap.size := k5.qs.top 1 |>.size
              clear k5 HA
              have H6 := Lib.hid (H5.out.box #[.int .u32 se', .int .u32 f0, .int .u32 f1, .int .u32 f2, .int .u32 t0, .int .u32 t1, .int .u32 t2, .int .i64 pn] 31)
              go_wp2_with (at_builtin; go_must (refine appR1L Try.eltP _ rfl (.tmp 39) (.tmp 45) rfl w.heap.size _ M rfl (H6.out.qs.rowV 1) w5.heap.size 1 ⟨se', f0, f1, f2, t0, t1, t2, pn⟩ 31 _ rfl (Blk.new w5 _ _) rfl (by unfold maxLen; omega) (by omega) (by simp; omega) ?_); intro g8 c8 w8 hown8 hgr8 hat8 hlt8)
              have H8 := Lib.hid ((H6.out.appended 1 rfl (fun j hj => ⟨by
                have := (World.ownsRow.lt (H5.out.qs.rowV 0) j hj).2
                show w5.heap.size ≠ j; omega, by
                have := (World.ownsRow.lt (H5.out.qs.rowV 0) j hj).1
                exact this, trivial⟩) (g' := g8) (n' := M.length + 1) (c' := c8) hown8 hgr8 hat8 hlt8).pop)
              go_roundw
              case measure => simp [intOf]; omega
              case rel => exact ⟨k + 1, M ++ [⟨se', f0, f1, f2, t0, t1, t2, pn⟩], some ⟨g8, 0, none⟩, c8, by omega, by go_num, by simp, by simp; omega, HM2, by simpa using H8⟩
      · obtain rfl : k = L.length := by omega
        have hro := runL_ok (b := 1048576) (by omega) L L.length (Nat.le_refl _)
        obtain ⟨l, hle⟩ : ∃ l, l = runL 1048576 L L.length := ⟨_, rfl⟩
        rw [← hle] at HT hro HM
        have hll : l.length ≤ 80 := by omega
        clear hle hro hlt
        go_wp2_with fail
        refine (w_pieces HT.out (by omega)).mono ?_
        rintro e w5 ⟨A5, c5, rfl, hown5, b5⟩
        have H5 := Lib.hid ((((HT.out.pushRow b5 hown5).qs)).cons (k := qW w5 w5.heap.size (Nat.le_refl _)) ⟨Below.refl _ _, Nat.le_refl _⟩)
        obtain ⟨B5, hB5⟩ : ∃ B5, B5 = wr.heap.size := ⟨_, rfl⟩
        rw [← hB5] at H5
        clear hown5 b5 HT hB5
        go_wp2_with fail
        go_loopw [7, 8] (fun s7 s8 wr => ∃ (i j : Nat), j ≤ l.length ∧ i ≤ M.length ∧ s8 = .int .i64 i ∧ s7 = .int .i64 j ∧ Hid ((l.drop j).Sublist (M.drop i)) ∧ Hid (Below w5.heap.size w5 wr))
          (fun _ s8 _ => M.length - (intOf s8).toNat)
        case atStart => exact ⟨0, 0, Nat.zero_le _, Nat.zero_le _, rfl, rfl, HM, Lib.hid (Below.refl _ _)⟩
        case round =>
          obtain ⟨i, j, hj, hi, rfl, rfl, HS, HB⟩ := hrel
          by_cases hlt : i < M.length
          · by_cases hlj : j < l.length
            · obtain ⟨p, rfl, hc, -, -, -, -⟩ := OwnR.at_ Try.eltP ((H5.out.go HB.out).rowV 2) i hlt
              obtain ⟨q, rfl, hd', -, -, -, -⟩ := OwnR.at_ Try.eltP ((H5.out.go HB.out).rowV 1) j hlj
              obtain ⟨x, hx⟩ : ∃ x, M[i] = x := ⟨_, rfl⟩
              obtain ⟨y, hy⟩ : ∃ y, l[j] = y := ⟨_, rfl⟩
              have hdj := drop_cons (List.getElem?_eq_getElem hlj)
              rw [hy] at hdj
              rw [hx] at hc
              rw [hy] at hd'
              have hN := fun w => eqP_run x y w
              have hs2 := HS.out
              rw [drop_cons (List.getElem?_eq_getElem hlt), hdj, hx] at hs2
              have C := And.intro (hc 0 _ rfl) (And.intro (hc 1 _ rfl) (And.intro (hc 2 _ rfl) (And.intro (hc 3 _ rfl) (And.intro (hc 4 _ rfl) (And.intro (hc 5 _ rfl) (And.intro (hc 6 _ rfl) (hc 7 _ rfl)))))))
              have D := And.intro (hd' 0 _ rfl) (And.intro (hd' 1 _ rfl) (And.intro (hd' 2 _ rfl) (And.intro (hd' 3 _ rfl) (And.intro (hd' 4 _ rfl) (And.intro (hd' 5 _ rfl) (And.intro (hd' 6 _ rfl) (hd' 7 _ rfl)))))))
              simp only [Nat.add_zero] at C D
              clear hc hd' hx hy
              by_cases he : x = y
              · have HS2 := Lib.hid (show (l.drop (j + 1)).Sublist (M.drop (i + 1)) by
                  rw [he] at hs2
                  exact List.cons_sublist_cons.1 hs2)
                rw [decide_eq_true he] at hN
                clear he hs2 hdj
                obtain ⟨se, f0, f1, f2, t0, t1, t2, pn⟩ := x
                obtain ⟨se', g0, g1, g2, s0, s1, s2, pm⟩ := y
                simp only [encP] at hN
                go_wp2_with fail
                go_quiet (fail)
                go_wp2_with fail
                go_roundw
                case measure => simp [intOf]; omega
                case rel => exact ⟨i + 1, j + 1, by omega, by omega, by go_num, by go_num, HS2, Lib.hid (below_drewN HB.out nq)⟩
              · have HS2 := Lib.hid (show (l.drop j).Sublist (M.drop (i + 1)) by
                  rw [hdj]
                  exact sub_tail hs2 (fun e => he e.symm))
                rw [decide_eq_false he] at hN
                clear he hs2 hdj
                obtain ⟨se, f0, f1, f2, t0, t1, t2, pn⟩ := x
                obtain ⟨se', g0, g1, g2, s0, s1, s2, pm⟩ := y
                simp only [encP] at hN
                go_wp2_with fail
                go_quiet (fail)
                go_wp2_with fail
                go_roundw
                case measure => simp [intOf]; omega
                case rel => exact ⟨i + 1, j, by omega, by omega, by go_num, rfl, HS2, Lib.hid (below_drewN HB.out nq)⟩
            · obtain rfl : j = l.length := by omega
              go_wp2_with fail
              go_ret
              exact ⟨by simp, (H5.out.go HB.out).top 3⟩
          · obtain rfl : i = M.length := by omega
            have hjl : j = l.length := by
              have h1 := HS.out.length_le
              rw [List.length_drop, List.length_drop] at h1
              omega
            subst hjl
            go_wp2_with fail
            go_ret
            exact ⟨by simp, (H5.out.go HB.out).top 3⟩

end Go.Proofs.Ytlchnpmiaemobaa
