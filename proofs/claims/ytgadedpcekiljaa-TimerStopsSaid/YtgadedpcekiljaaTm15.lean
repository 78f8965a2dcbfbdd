/- Layer 14: walk of TimerStops. -/
import Derived.Test.YtgadedpcekiljaaTm14
set_option linter.unusedSimpArgs false
set_option linter.unusedVariables false
namespace Go.Proofs.Ytgadedpcekiljaa
open Go.RowKit
set_option maxRecDepth 100000

def encW (x : Nat) : List Value := [.int .u64 ((x : Nat) : Int)]
theorem Try.eltW : Elt Try.prog 42 31 encW 1 8 := ⟨Try.underlying42, ⟨.int .u64 0, by kernel_rfl, rfl⟩, by decide, fun _ => rfl, fun x v h => by
  unfold encW at h
  rw [List.mem_singleton] at h
  subst h
  rfl⟩
def wasL (M : List (Nat × Nat × Nat)) (l : List OT) : List Nat := l.map fun o => (atD M o.se).1
theorem wasL_snoc {M : List (Nat × Nat × Nat)} {l : List OT} {k : Nat} {o : OT} (h : l[k]? = some o) : wasL M (l.take (k + 1)) = wasL M (l.take k) ++ [(atD M o.se).1] := by
  unfold wasL
  rw [List.take_add_one, h, List.map_append]
  rfl
theorem atD_del {M : List (Nat × Nat × Nat)} {x y : Nat} (h : ¬ y = x) : atD (delM M x) y = atD M y := by
  unfold atD
  rw [look_del, if_neg h]
set_option maxHeartbeats 16000000 in
theorem tstops_walk (m0 : Nat) (b0 : m0 < 65536) (V : Option Addr) (c : Nat) (l : List OT) (m2 : Nat) (b2 : m2 < 4294967296) (m3 : Nat) (b3 : m3 < 4294967296) (w : World) (hV : Rw w encO14 3 V l) (hl : l.length ≤ maxLen) (ho : OkT l) :
    Calls Try.prog 6 #[.int .u16 (m0 : Nat), .slice V l.length c, .int .u32 (m2 : Nat), .int .u32 (m3 : Nat)] w fun e w' => e = .returned (.bool true) ∧ Below w.heap.size w w' := by
  have hmx : Try.prog.follows .mixedOrders = true := by kernel_rfl
  have HK := Lib.hid (tknown_any w)
  obtain ⟨n, hn⟩ : ∃ n, n = l.length := ⟨_, rfl⟩
  rw [← hn]
  rw [← hn] at hl
  have hln : n ≤ 9223372036854775807 := by unfold maxLen at hl; omega
  have HX := Lib.hid (And.intro hV (And.intro ho hn))
  obtain ⟨tt, htt⟩ : ∃ t, t = m0 % 1000 := ⟨_, rfl⟩
  have f0 : (m0 : Int) % 1000 = (tt : Int) := by omega
  have htt9 : tt ≤ 999 := by omega
  obtain ⟨T, hT⟩ : ∃ t, t = 1 + tt := ⟨_, rfl⟩
  have f1 : 1 + (tt : Int) = (T : Int) := by omega
  have hT1 : 1 ≤ T := by omega
  have hT2 : T ≤ 1000 := by omega
  clear hV ho hn hl htt hT
  go_enter Try.func6, Try.ntmps6
  by_cases h60 : 60 < n
  · have g1 : decide ((60 : Int) < (n : Int)) = true := decide_eq_true (by omega)
    have g2 : (60 : Int) < (n : Int) := by omega
    clear h60
    go_wp2_with fail
    refine HK.out.mono ?_
    rintro e w2 ⟨rfl, h2⟩
    have H2 := Lib.hid h2
    clear h2 HK
    go_wp2_with fail
    go_ret
    exact ⟨rfl, H2.out⟩
  · have g1 : decide ((60 : Int) < (n : Int)) = false := decide_eq_false (by omega)
    have g2 : ¬ (60 : Int) < (n : Int) := by omega
    go_wp2_with fail
    refine HK.out.mono ?_
    rintro e w2 ⟨rfl, h2⟩
    have H2 := Lib.hid h2
    have HN := Lib.hid (tnew_any T hT1 hT2 w2)
    have H0 := Lib.hid (Tm.new (Sep.nil (Below.refl w2.heap.size w2) (Nat.le_refl _)) T)
    obtain ⟨qa, hqa⟩ : ∃ q, q = w2.heap.size + 1 := ⟨_, rfl⟩
    obtain ⟨W0, hW0⟩ : ∃ W, W = ((w2.alloc (.map #[] 0)).alloc (.cells #[.int .u64 ((T : Nat) : Int), .map (some w2.heap.size)] 48)) := ⟨_, rfl⟩
    rw [← hqa, ← hW0] at H0 HN
    clear h2 HK hqa hW0
    go_wp2_with fail
    refine HN.out.mono ?_
    rintro e w3 ⟨q1, rfl, hq1, hw1⟩
    rw [hw1, hq1]
    clear hw1 hq1 HN
    go_wp2_with fail
    go_loopg [10] n (fun gh s wr => ∃ i : Nat, s = .int .i64 i ∧ i + gh = n ∧ Hid (∃ M, Tm w2.heap.size w2 wr qa T M [] ∧ Bm i M))
    case atStart => exact ⟨0, rfl, Nat.zero_add _, Lib.hid ⟨[], H0.out, Bm.new⟩⟩
    case round =>
      obtain ⟨i, rfl, hig, HR⟩ := hrel
      clear H0
      by_cases hi : i < n
      · have hil : (i : Int) < (n : Int) := by omega
        have hi0 : (0 : Int) ≤ (i : Int) := by omega
        have hi9 : i < 1000 := by omega
        obtain ⟨M, h1, h2⟩ := HR.out
        obtain ⟨o, hoi⟩ : ∃ o, l[i]? = some o := ⟨_, List.getElem?_eq_getElem (by have := HX.out.2.2; omega)⟩
        obtain ⟨p, f, rfl, c0, c1, c2⟩ := op_cells HX.out.1 (H2.out.trans (h1.sep.mono H2.out.size)) hoi
        obtain ⟨-, hse, hno⟩ := HX.out.2.1 o (List.mem_of_getElem? hoi)
        obtain ⟨kd, se, now⟩ := o
        simp only at c0 c1 c2
        have hse : se < 4294967296 := hse
        have hno : now < 18446744073709551616 := hno
        have HA := Lib.hid h1
        have HB := Lib.hid h2
        clear h1 h2 hoi HR hi
        have HRN := Lib.hid (fun (y : More) => rtnew_any 1 (by omega) (by omega) (plus wr y))
        have HTM := Lib.hid (HA.out)
        have x0 : ∀ y : More, (plus wr y).cell? ⟨p, f + i * 3, none⟩ = some (.int .u8 ((kd : Nat) : Int)) := fun y => ((plus_below wr y).cell (cell_lt c0)).trans c0
        have x1 : ∀ y : More, (plus wr y).cell? ⟨p, f + i * 3 + 1, none⟩ = some (.int .u32 ((se : Nat) : Int)) := fun y => ((plus_below wr y).cell (cell_lt c1)).trans c1
        have x2 : ∀ y : More, (plus wr y).cell? ⟨p, f + i * 3 + 2, none⟩ = some (.int .u64 ((now : Nat) : Int)) := fun y => ((plus_below wr y).cell (cell_lt c2)).trans c2
        have hpl := plus_cell wr
        go_upto_region 9 with fail
        refine wp_region_fresh_tail 6 [] [1, 6] (fun k V z => ∃ g, V = .pointer (some ⟨g, 0, none⟩) ∧ Blk z g 52 #[.int .u64 ((1 : Nat) : Int), .slice none 0 0] ∧ wr.heap.size ≤ g) hmx (by kernel_rfl) (by kernel_rfl) ?_
        simp only [List.take_succ_cons, List.take_zero, List.drop_succ_cons, List.drop_zero]
        refine walkF_one none wr rfl (by kernel_rfl) ?_; go_big_quiet_step (fail); refine wpQuiet_nil ?_
        refine walkF_make none wr rfl rfl rfl (by kernel_rfl) (fun y => ?_) ?_
        · refine grow_call ?_ ((HRN.out y).mono ?_)
          · simp [execOp, go_sem]
          · rintro e w9 ⟨rfl, hw9⟩
            rw [hw9]
            exact ⟨_, rfl, below_alloc _ _, _, rfl, Blk.new _ _ _, (plus_below wr y).size⟩
        intro V1 z1 hV1 g1
        obtain ⟨rq, rfl, bq, hq⟩ : ∃ g, V1 = .pointer (some ⟨g, 0, none⟩) ∧ Blk z1 g 52 #[.int .u64 ((1 : Nat) : Int), .slice none 0 0] ∧ wr.heap.size ≤ g := hV1
        conv => arg 11; simp [Act.put]
        iterate 4 (refine walkF_one none wr rfl (by kernel_rfl) ?_; go_big_quiet_step (fail); refine wpQuiet_nil ?_)
        refine walkF_end ?_
        intro w9 h0 hE
        have kq : Below z1.heap.size z1 w9 := hE 1
        have HC := Lib.hid (does_new (o := ⟨kd, se, now⟩) HTM.out h0 (Blk.below bq kq bq.lt) hq HB.out hT2 (by omega) hse hno)
        clear hE kq bq hq h0 g1 hpl x0 x1 x2 HRN HTM
        unfold celT at HC
        go_wp2_with fail
        refine HC.out.mono ?_
        rintro e w4 ⟨r, M2, rfl, k1, k2, k3⟩
        have H4 : Hid (Tm w2.heap.size w2 w4 qa T M2 [] ∧ Bm (i + 1) M2) := Lib.hid ⟨k1, k3⟩
        clear k1 k2 k3 HC HA HB c0 c1 c2
        go_wp2_with fail
        go_roundg (n - (i + 1))
        case measure => omega
        case rel => exact ⟨i + 1, by go_num, by omega, Lib.hid ⟨M2, H4.out⟩⟩
      · have hil : ¬ (i : Int) < (n : Int) := by omega
        have hin : i = n := by omega
        obtain ⟨M, h1, h2⟩ := HR.out
        have hMl : M.length ≤ 1000000 := by have := h2.1; omega
        have HM : Hid (∀ k c, lookM M k = some c → c.2 ≤ 4) := Lib.hid h2.2
        obtain ⟨b, hS⟩ := h1.toSep
        have HL : Hid (Tm w2.heap.size w2 wr qa T M [thR 31 encW 1 (.slice none 0 0) (wasL M (l.take 0))]) := Lib.hid ⟨b, srt_perm (hS.cons (t := thR 31 encW 1 (.slice none 0 0) ([] : List Nat)) (Below.refl _ _) (OwnR.nil _ _ _ _ _) (fun k e => by cases e)) ((List.Perm.swap _ _ _).trans ((List.Perm.swap _ _ _).cons _))⟩
        clear h1 h2 hS HR hi hin
        go_wp2_with fail
        go_loopg [11, 12] n (fun gh s11 s12 wy => ∃ (k : Nat) (v : Value), v = s11 ∧ s12 = .int .i64 k ∧ k + gh = n ∧ Hid (Tm w2.heap.size w2 wy qa T M [thR 31 encW 1 v (wasL M (l.take k))]))
        case atStart => exact ⟨0, _, rfl, rfl, Nat.zero_add _, HL⟩
        case round =>
          obtain ⟨k, v, rfl, rfl, hkg, HY⟩ := hrel
          clear HL
          by_cases hk : k < n
          · have hkl : (k : Int) < (n : Int) := by omega
            have hk0 : (0 : Int) ≤ (k : Int) := by omega
            obtain ⟨o, hoi⟩ : ∃ o, l[k]? = some o := ⟨_, List.getElem?_eq_getElem (by have := HX.out.2.2; omega)⟩
            obtain ⟨p, f, rfl, c0, c1, c2⟩ := op_cells HX.out.1 (H2.out.trans (HY.out.sep.mono H2.out.size)) hoi
            obtain ⟨-, hse, hno⟩ := HX.out.2.1 o (List.mem_of_getElem? hoi)
            have HC := Lib.hid (tat_any HY.out o.se hse)
            have hsn := wasL_snoc (M := M) hoi
            obtain ⟨x1, hx1⟩ : ∃ x, x = (atD M o.se).1 := ⟨_, rfl⟩
            obtain ⟨i1, hi1⟩ : ∃ x, x = (lookM M o.se).isSome := ⟨_, rfl⟩
            rw [← hx1, ← hi1] at HC
            rw [← hx1] at hsn
            have hwl : (wasL M (l.take k)).length ≤ 1000 := by unfold wasL; rw [List.length_map, List.length_take]; omega
            obtain ⟨ws, hws⟩ : ∃ z, z = wasL M (l.take k) := ⟨_, rfl⟩
            rw [← hws] at hsn hwl HY
            rw [← hws] at HC
            have HW := Lib.hid hsn
            obtain ⟨kd, se, now⟩ := o
            simp only at c0 c1 c2 HC
            clear hx1 hi1 hoi hse hno hsn hws hk
            go_upto_region 15 with (go_at_call 11; refine HC.out.mono ?_; rintro e w5 ⟨rfl, b5, h5⟩)
            have H5 := Lib.hid h5
            clear h5 HC HY c0 c1 c2
            go_upto_region 13 with (at_builtin; go_must (refine sep_app1 Try.eltW rfl (.tmp 71) (.tmp 73) rfl 2 v ws rfl (H5.out.go (below_alloc w5 _)) rfl w5.heap.size 1 x1 31 #[.int .u64 ((x1 : Nat) : Int)] rfl (Blk.new w5 _ _) rfl (by unfold maxLen; omega) (by omega) ?_); intro g6 c6 w6 h6)
            have H6 : Hid (Tm w2.heap.size w2 w6 qa T M [thR 31 encW 1 (.slice (some ⟨g6, 0, none⟩) (ws.length + 1) c6) (wasL M (l.take (k + 1)))]) := Lib.hid ⟨b5, by rw [HW.out]; exact h6⟩
            clear h6 H5
            go_wp2_with fail
            go_roundg (n - (k + 1))
            case measure => omega
            case rel => exact ⟨k + 1, _, rfl, by go_num, by omega, H6⟩
          · have hkl : ¬ (k : Int) < (n : Int) := by omega
            have HZ : Hid (Tm w2.heap.size w2 wr qa T M [thR 31 encW 1 v (wasL M l)]) := Lib.hid (by
              have h := HY.out
              rw [List.take_of_length_le (by have := HX.out.2.2; omega)] at h
              exact h)
            have hr : OwnR wr 0 31 encW 1 v (wasL M l) := HZ.out.get (t := thR 31 encW 1 v (wasL M l)) (by simp)
            obtain ⟨A, cv, rfl, -, -⟩ := OwnR.row Try.eltW hr
            have hwl : (wasL M l).length = n := by unfold wasL; rw [List.length_map]; exact HX.out.2.2.symm
            rw [hwl] at HZ ⊢
            have HA := Lib.hid (tat_any HZ.out m2 b2)
            obtain ⟨x1, hx1⟩ : ∃ x, x = (atD M m2).1 := ⟨_, rfl⟩
            obtain ⟨i1, hi1⟩ : ∃ x, x = (lookM M m2).isSome := ⟨_, rfl⟩
            rw [← hx1, ← hi1] at HA
            have HI1 := Lib.hid hi1
            have HWL := Lib.hid hwl
            clear hx1 hi1 hr HY hk hwl HZ
            go_wp2_with fail
            refine HA.out.mono ?_
            rintro e w5 ⟨rfl, h5⟩
            have HB := Lib.hid (tstop_any h5 m2 b2)
            rw [← HI1.out] at HB
            clear h5 HA
            go_wp2_with fail
            refine HB.out.mono ?_
            rintro e w6 ⟨rfl, h6⟩
            have HC := Lib.hid (tat_any h6 m2 b2)
            have hn2 : lookM (delM M m2) m2 = none := by rw [look_del, if_pos rfl]
            rw [show (lookM (delM M m2) m2).isSome = false by rw [hn2]; rfl] at HC
            obtain ⟨x2, hx2⟩ : ∃ x, x = (atD (delM M m2) m2).1 := ⟨_, rfl⟩
            rw [← hx2] at HC
            have HN2 := Lib.hid hn2
            clear h6 HB hn2 hx2
            go_wp2_with fail
            refine HC.out.mono ?_
            rintro e w7 ⟨rfl, h7⟩
            have H7 := Lib.hid h7
            clear h7 HC
            go_wp2_with fail
            go_loopg [20] n (fun gh s20 wz => ∃ k : Nat, s20 = .int .i64 k ∧ k + gh = n ∧ Hid (Tm w2.heap.size w2 wz qa T (delM M m2) [thR 31 encW 1 (.slice A n cv) (wasL M l)]))
            case atStart => exact ⟨0, rfl, Nat.zero_add _, H7⟩
            case round =>
              obtain ⟨k, rfl, hkg, HY⟩ := hrel
              clear H7
              by_cases hk : k < n
              · have hkl : (k : Int) < (n : Int) := by omega
                have hk0 : (0 : Int) ≤ (k : Int) := by omega
                obtain ⟨o, hoi⟩ : ∃ o, l[k]? = some o := ⟨_, List.getElem?_eq_getElem (by have := HX.out.2.2; omega)⟩
                have HO := Lib.hid hoi
                obtain ⟨p, f, rfl, c0, c1, c2⟩ := op_cells HX.out.1 (H2.out.trans (HY.out.sep.mono H2.out.size)) hoi
                obtain ⟨-, hse, hno⟩ := HX.out.2.1 o (List.mem_of_getElem? hoi)
                have HC := Lib.hid (tat_any HY.out o.se hse)
                obtain ⟨x1, hx1⟩ : ∃ x, x = (atD (delM M m2) o.se).1 := ⟨_, rfl⟩
                obtain ⟨i2, hi2⟩ : ∃ x, x = (lookM (delM M m2) o.se).isSome := ⟨_, rfl⟩
                rw [← hx1, ← hi2] at HC
                have hwk : (wasL M l)[k]? = some (atD M o.se).1 := by unfold wasL; rw [List.getElem?_map, hoi]; rfl
                have HE := Lib.hid (show ¬ o.se = m2 → (atD M o.se).1 = x1 from fun h => by rw [hx1, atD_del h])
                have HWK := Lib.hid hwk
                obtain ⟨kd, se, now⟩ := o
                simp only at c0 c1 c2 HC HE HWK
                clear hx1 hi2 hoi hse hno hwk hk
                go_upto_region 23 with (go_at_call 11; refine HC.out.mono ?_; rintro e w5 ⟨rfl, h5⟩)
                obtain ⟨p', f', hpf, d0, d1, d2⟩ := op_cells HX.out.1 (H2.out.trans (h5.sep.mono H2.out.size)) HO.out
                injection hpf with hpf
                injection hpf with hp1 hp2
                subst hp1
                subst hp2
                simp only at d0 d1 d2
                have H5 := Lib.hid h5
                clear h5 HC HY c0 c1 c2
                by_cases hsm : se = m2
                · have g3 : ((se : Int) == (m2 : Int)) = true := beq_iff_eq.2 (by omega)
                  have g4 : (se : Int) = (m2 : Int) := by omega
                  clear hsm
                  go_wp2_with fail
                  go_roundg (n - (k + 1))
                  case measure => omega
                  case rel => exact ⟨k + 1, by go_num, by omega, H5⟩
                · have g3 : ((se : Int) == (m2 : Int)) = false := beq_eq_false_iff_ne.2 (by omega)
                  have g4 : ¬ (se : Int) = (m2 : Int) := by omega
                  have hw := HWK.out
                  rw [HE.out hsm] at hw
                  obtain ⟨gA, rfl, -, hc⟩ := row_at Try.eltW (H5.out.get (t := thR 31 encW 1 (.slice A n cv) (wasL M l)) (by simp) : OwnR w5 0 31 encW 1 (.slice A n cv) (wasL M l)) hw
                  have cA := hc 0 _ rfl
                  simp only [Nat.add_zero, Nat.mul_one] at cA
                  clear hsm hw hc
                  go_wp2_with fail
                  go_roundg (n - (k + 1))
                  case measure => omega
                  case rel => exact ⟨k + 1, by go_num, by omega, H5⟩
              · have hkl : ¬ (k : Int) < (n : Int) := by omega
                have hMl2 : (delM M m2).length ≤ 1000000 := Nat.le_trans (del_len M m2) hMl
                have HB := Lib.hid (tdue_any (HY.out.drop (List.nil_sublist _)) 18446744073709551615 (by omega) hT2 hMl2 (fun k c h => by
                  rw [look_del] at h
                  by_cases e : k = m2
                  · rw [if_pos e] at h; cases h
                  · rw [if_neg e] at h; exact HM.out k c h))
                clear hk HY
                go_wp2_with fail
                refine HB.out.mono ?_
                rintro e w5 ⟨v5, l5, M5, rfl, h5, u5, k5, y5, z5⟩
                have hnot : Hid (∀ x ∈ l5, x ≠ m2) := Lib.hid fun x hx e => by
                  obtain ⟨c, hc, -⟩ := (u5.2 x).1 hx
                  rw [e, HN2.out] at hc
                  cases hc
                have hl5 : l5.length ≤ 1000000 := by omega
                have hM5 : M5.length ≤ 1000000 := by rw [keys_len y5]; exact hMl2
                have hr : OwnR w5 0 24 encU 1 v5 l5 := h5.get (t := thR 24 encU 1 v5 l5) (by simp)
                obtain ⟨A5, c5, rfl, -, -⟩ := OwnR.row Try.eltU hr
                obtain ⟨n5, hn5⟩ : ∃ z, z = l5.length := ⟨_, rfl⟩
                rw [← hn5] at h5 hl5 ⊢
                have H5 := Lib.hid (And.intro h5 hn5)
                clear h5 HB u5 k5 y5 z5 hr hn5
                go_wp2_with fail
                go_loopg [24] n5 (fun gh s24 wv => ∃ k : Nat, s24 = .int .i64 k ∧ k + gh = n5 ∧ Hid (wv = w5))
                case atStart => exact ⟨0, rfl, Nat.zero_add _, Lib.hid rfl⟩
                case round =>
                  obtain ⟨k, rfl, hkg, HV⟩ := hrel
                  rw [HV.out]
                  by_cases hk : k < n5
                  · have hkl : (k : Int) < (n5 : Int) := by omega
                    have hk0 : (0 : Int) ≤ (k : Int) := by omega
                    obtain ⟨x, hx⟩ : ∃ x, l5[k]? = some x := ⟨_, List.getElem?_eq_getElem (by have := H5.out.2; omega)⟩
                    have hxm : ¬ x = m2 := hnot.out x (List.mem_of_getElem? hx)
                    obtain ⟨gA, rfl, -, hc⟩ := row_at Try.eltU (H5.out.1.get (t := thR 24 encU 1 (.slice A5 n5 c5) l5) (by simp) : OwnR w5 0 24 encU 1 (.slice A5 n5 c5) l5) hx
                    have cA := hc 0 _ rfl
                    simp only [Nat.add_zero, Nat.mul_one] at cA
                    have g3 : ((x : Int) == (m2 : Int)) = false := beq_eq_false_iff_ne.2 (by omega)
                    have g4 : ¬ (x : Int) = (m2 : Int) := by omega
                    clear hx hc hk hxm
                    go_wp2_with fail
                    go_roundg (n5 - (k + 1))
                    case measure => omega
                    case rel => exact ⟨k + 1, by go_num, by omega, Lib.hid rfl⟩
                  · have hkl : ¬ (k : Int) < (n5 : Int) := by omega
                    have HA := Lib.hid (tagain_any (H5.out.1.drop (List.nil_sublist _)) m2 m3 b2 (by omega) hT2 hM5)
                    clear hk
                    go_wp2_with fail
                    refine HA.out.mono ?_
                    rintro e w6 ⟨rfl, h6⟩
                    have HC := Lib.hid (tat_any h6 m2 b2)
                    obtain ⟨X, hX⟩ : ∃ z, z = m3 + T := ⟨_, rfl⟩
                    have hat : (atD (putM M5 m2 (almD T m3 0)) m2).1 = X := by
                      unfold atD almD
                      rw [look_put, if_pos rfl, hX]
                      simp only [Option.getD_some, Nat.pow_zero, Nat.mul_one]
                      omega
                    rw [hat, show (lookM (putM M5 m2 (almD T m3 0)) m2).isSome = true by rw [look_put, if_pos rfl]; rfl] at HC
                    have g7 : IntKind.u64.wrap ((m3 : Int) + (T : Int)) = (X : Int) := by rw [IntKind.wrap_u64]; omega
                    clear h6 HA hX hat
                    go_wp2_with fail
                    refine HC.out.mono ?_
                    rintro e w8 ⟨rfl, h8⟩
                    have H8 := Lib.hid h8.sep
                    clear h8 HC
                    go_wp2_with fail
                    go_ret
                    exact ⟨rfl, H2.out.trans (H8.out.mono H2.out.size)⟩

end Go.Proofs.Ytgadedpcekiljaa
