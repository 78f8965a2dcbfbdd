/- Layer 14: walk of TimerApart. -/
import Derived.Test.YtgadedpcekiljaaTm13
set_option linter.unusedSimpArgs false
set_option linter.unusedVariables false
namespace Go.Proofs.Ytgadedpcekiljaa
open Go.RowKit
set_option maxRecDepth 100000

set_option maxHeartbeats 16000000 in
theorem tapart_walk (m0 : Nat) (b0 : m0 < 65536) (V : Option Addr) (c : Nat) (l : List OT) (m2 : Nat) (b2 : m2 < 4294967296) (w : World) (hV : Rw w encO14 3 V l) (hl : l.length ≤ maxLen) (ho : OkT l) :
    Calls Try.prog 3 #[.int .u16 (m0 : Nat), .slice V l.length c, .int .u32 (m2 : Nat)] w fun e w' => e = .returned (.bool true) ∧ Below w.heap.size w w' := by
  have hmx : Try.prog.follows .mixedOrders = true := by kernel_rfl
  have HK := Lib.hid (tknown_any w)
  obtain ⟨n, hn⟩ : ∃ n, n = l.length := ⟨_, rfl⟩
  rw [← hn]
  rw [← hn] at hl
  have hln : n ≤ 9223372036854775807 := by unfold maxLen at hl; omega
  have HX := Lib.hid (And.intro hV (And.intro ho hn))
  obtain ⟨tt, htt⟩ : ∃ t, t = m0 % 1000 := ⟨_, rfl⟩
  have f0 : (m0 : Int) % 1000 = (tt : Int) := by omega
  have htt9 : tt ≤ 999 := by omega
  obtain ⟨T, hT⟩ : ∃ t, t = 1 + tt := ⟨_, rfl⟩
  have f1 : 1 + (tt : Int) = (T : Int) := by omega
  have hT1 : 1 ≤ T := by omega
  have hT2 : T ≤ 1000 := by omega
  clear hV ho hn hl htt hT
  go_enter Try.func3, Try.ntmps3
  by_cases h60 : 60 < n
  · have g1 : decide ((60 : Int) < (n : Int)) = true := decide_eq_true (by omega)
    have g2 : (60 : Int) < (n : Int) := by omega
    clear h60
    go_wp2_with fail
    refine HK.out.mono ?_
    rintro e w2 ⟨rfl, h2⟩
    have H2 := Lib.hid h2
    clear h2 HK
    go_wp2_with fail
    go_ret
    exact ⟨rfl, H2.out⟩
  · have g1 : decide ((60 : Int) < (n : Int)) = false := decide_eq_false (by omega)
    have g2 : ¬ (60 : Int) < (n : Int) := by omega
    go_wp2_with fail
    refine HK.out.mono ?_
    rintro e w2 ⟨rfl, h2⟩
    have H2 := Lib.hid h2
    have HN := Lib.hid (tnew_any T hT1 hT2 w2)
    have H0 := Lib.hid (Tm.new (Sep.nil (Below.refl w2.heap.size w2) (Nat.le_refl _)) T)
    obtain ⟨qa, hqa⟩ : ∃ q, q = w2.heap.size + 1 := ⟨_, rfl⟩
    obtain ⟨W0, hW0⟩ : ∃ W, W = ((w2.alloc (.map #[] 0)).alloc (.cells #[.int .u64 ((T : Nat) : Int), .map (some w2.heap.size)] 48)) := ⟨_, rfl⟩
    rw [← hqa, ← hW0] at H0 HN
    clear h2 HK hqa hW0
    go_wp2_with fail
    refine HN.out.mono ?_
    rintro e w3 ⟨q1, rfl, hq1, hw1⟩
    rw [hw1, hq1]
    clear hw1 hq1 HN
    have HN := Lib.hid (tnew_any T hT1 hT2 W0)
    have H1 : Hid (T2 w2.heap.size w2 ((W0.alloc (.map #[] 0)).alloc (.cells #[.int .u64 ((T : Nat) : Int), .map (some W0.heap.size)] 48)) T qa [] (W0.heap.size + 1) [] []) := Lib.hid (by
      obtain ⟨b, h⟩ := H0.out.toSep
      exact T2.ofB (ba := b) (Tm.new h T))
    obtain ⟨qb, hqb⟩ : ∃ q, q = W0.heap.size + 1 := ⟨_, rfl⟩
    obtain ⟨W1, hW1⟩ : ∃ W, W = ((W0.alloc (.map #[] 0)).alloc (.cells #[.int .u64 ((T : Nat) : Int), .map (some W0.heap.size)] 48)) := ⟨_, rfl⟩
    rw [← hqb, ← hW1] at H1 HN
    clear hqb hW1 H0
    go_wp2_with fail
    refine HN.out.mono ?_
    rintro e w3 ⟨q1, rfl, hq1, hw1⟩
    rw [hw1, hq1]
    clear hw1 hq1 HN
    go_wp2_with fail
    go_loopg [9] n (fun gh s9 wr => ∃ i : Nat, s9 = .int .i64 i ∧ i + gh = n ∧ Hid (∃ Ma Mb, T2 w2.heap.size w2 wr T qa Ma qb Mb [] ∧ Bm i Ma ∧ Bm i Mb ∧ lookM Ma m2 = lookM Mb m2))
    case atStart => exact ⟨0, rfl, Nat.zero_add _, Lib.hid ⟨[], [], H1.out, Bm.new, Bm.new, rfl⟩⟩
    case round =>
      obtain ⟨i, rfl, hig, HR⟩ := hrel
      clear H1
      by_cases hi : i < n
      · have hil : (i : Int) < (n : Int) := by omega
        have hi0 : (0 : Int) ≤ (i : Int) := by omega
        have hi9 : i < 1000 := by omega
        obtain ⟨Ma, Mb, h1, h2, h3, h4⟩ := HR.out
        obtain ⟨o, hoi⟩ : ∃ o, l[i]? = some o := ⟨_, List.getElem?_eq_getElem (by have := HX.out.2.2; omega)⟩
        have HO := Lib.hid hoi
        obtain ⟨p, f, rfl, c0, c1, c2⟩ := op_cells HX.out.1 (H2.out.trans (h1.sep.mono H2.out.size)) hoi
        obtain ⟨-, hse, hno⟩ := HX.out.2.1 o (List.mem_of_getElem? hoi)
        obtain ⟨bb, hA⟩ := h1.asA
        obtain ⟨kd, se, now⟩ := o
        simp only at c0 c1 c2
        have hse : se < 4294967296 := hse
        have hno : now < 18446744073709551616 := hno
        have HD := Lib.hid (And.intro h2 (And.intro h3 h4))
        have HA := Lib.hid hA
        clear h1 h2 h3 h4 hoi HR hi hA
        have HRN := Lib.hid (fun (y : More) => rtnew_any 1 (by omega) (by omega) (plus wr y))
        have HTM := Lib.hid (HA.out)
        have x0 : ∀ y : More, (plus wr y).cell? ⟨p, f + i * 3, none⟩ = some (.int .u8 ((kd : Nat) : Int)) := fun y => ((plus_below wr y).cell (cell_lt c0)).trans c0
        have x1 : ∀ y : More, (plus wr y).cell? ⟨p, f + i * 3 + 1, none⟩ = some (.int .u32 ((se : Nat) : Int)) := fun y => ((plus_below wr y).cell (cell_lt c1)).trans c1
        have x2 : ∀ y : More, (plus wr y).cell? ⟨p, f + i * 3 + 2, none⟩ = some (.int .u64 ((now : Nat) : Int)) := fun y => ((plus_below wr y).cell (cell_lt c2)).trans c2
        have hpl := plus_cell wr
        go_upto_region 10 with fail
        refine wp_region_fresh_tail 6 [] [1, 6] (fun k V z => ∃ g, V = .pointer (some ⟨g, 0, none⟩) ∧ Blk z g 52 #[.int .u64 ((1 : Nat) : Int), .slice none 0 0] ∧ wr.heap.size ≤ g) hmx (by kernel_rfl) (by kernel_rfl) ?_
        simp only [List.take_succ_cons, List.take_zero, List.drop_succ_cons, List.drop_zero]
        refine walkF_one none wr rfl (by kernel_rfl) ?_; go_big_quiet_step (fail); refine wpQuiet_nil ?_
        refine walkF_make none wr rfl rfl rfl (by kernel_rfl) (fun y => ?_) ?_
        · refine grow_call ?_ ((HRN.out y).mono ?_)
          · simp [execOp, go_sem]
          · rintro e w9 ⟨rfl, hw9⟩
            rw [hw9]
            exact ⟨_, rfl, below_alloc _ _, _, rfl, Blk.new _ _ _, (plus_below wr y).size⟩
        intro V1 z1 hV1 g1
        obtain ⟨rq, rfl, bq, hq⟩ : ∃ g, V1 = .pointer (some ⟨g, 0, none⟩) ∧ Blk z1 g 52 #[.int .u64 ((1 : Nat) : Int), .slice none 0 0] ∧ wr.heap.size ≤ g := hV1
        conv => arg 11; simp [Act.put]
        iterate 4 (refine walkF_one none wr rfl (by kernel_rfl) ?_; go_big_quiet_step (fail); refine wpQuiet_nil ?_)
        refine walkF_end ?_
        intro w9 h0 hE
        have kq : Below z1.heap.size z1 w9 := hE 1
        have HC := Lib.hid (does_new (o := ⟨kd, se, now⟩) HTM.out h0 (Blk.below bq kq bq.lt) hq HD.out.1 hT2 (by omega) hse hno)
        clear hE kq bq hq h0 g1 hpl x0 x1 x2 HRN HTM
        unfold celT at HC
        go_wp2_with fail
        refine HC.out.mono ?_
        rintro e w4 ⟨r, Ma2, rfl, k1, k2, k3⟩
        have H4 : Hid (T2 w2.heap.size w2 w4 T qa Ma2 qb Mb []) := Lib.hid (T2.ofA k1)
        have HK2 := Lib.hid (And.intro k2 k3)
        obtain ⟨p', f', hpf, c0, c1, c2⟩ := op_cells HX.out.1 (H2.out.trans (H4.out.sep.mono H2.out.size)) HO.out
        injection hpf with hpf
        injection hpf with hp1 hp2
        subst hp1
        subst hp2
        simp only at c0 c1 c2
        clear k1 k2 k3 HC HA
        by_cases hc : se = m2 ∨ 3 < kd % 6
        case' pos =>
          have hcc : ((se : Int) == (m2 : Int)) = true ∨ ((se : Int) == (m2 : Int)) = false ∧ decide ((3 : Int) < (kd : Int) % 6) = true := by
            by_cases e : se = m2
            · exact .inl (beq_iff_eq.2 (by omega))
            · exact .inr ⟨beq_eq_false_iff_ne.2 (by omega), decide_eq_true (by omega)⟩
          have HCC := Lib.hid hc
          clear hc
          go_upto_region 11 with fail
          go_cut [66] (fun s66 wx => s66 = .bool true ∧ wx = w4)
          case first =>
            rcases hcc with g3 | ⟨g3, g4⟩
            · have g5 : (se : Int) = (m2 : Int) := beq_iff_eq.1 g3
              go_wp2_with fail
              go_meet
              exact ⟨rfl, rfl⟩
            · have g5 : ¬ (se : Int) = (m2 : Int) := beq_eq_false_iff_ne.1 g3
              have g6 : (3 : Int) < (kd : Int) % 6 := of_decide_eq_true g4
              go_wp2_with fail
              go_meet
              exact ⟨rfl, rfl⟩
          case' rest =>
            obtain ⟨rfl, hwc⟩ := hcut
            rw [hwc]
            clear hwc hcc
            obtain ⟨ba, hB⟩ := H4.out.asB
            have HBB := Lib.hid hB
            clear hB
            have HRN := Lib.hid (fun (y : More) => rtnew_any 1 (by omega) (by omega) (plus w4 y))
            have HTM := Lib.hid (HBB.out)
            have x0 : ∀ y : More, (plus w4 y).cell? ⟨p, f + i * 3, none⟩ = some (.int .u8 ((kd : Nat) : Int)) := fun y => ((plus_below w4 y).cell (cell_lt c0)).trans c0
            have x1 : ∀ y : More, (plus w4 y).cell? ⟨p, f + i * 3 + 1, none⟩ = some (.int .u32 ((se : Nat) : Int)) := fun y => ((plus_below w4 y).cell (cell_lt c1)).trans c1
            have x2 : ∀ y : More, (plus w4 y).cell? ⟨p, f + i * 3 + 2, none⟩ = some (.int .u64 ((now : Nat) : Int)) := fun y => ((plus_below w4 y).cell (cell_lt c2)).trans c2
            have hpl := plus_cell w4
            go_upto_region 12 with fail
            refine wp_region_fresh_tail 6 [] [1, 6] (fun k V z => ∃ g, V = .pointer (some ⟨g, 0, none⟩) ∧ Blk z g 52 #[.int .u64 ((1 : Nat) : Int), .slice none 0 0] ∧ w4.heap.size ≤ g) hmx (by kernel_rfl) (by kernel_rfl) ?_
            simp only [List.take_succ_cons, List.take_zero, List.drop_succ_cons, List.drop_zero]
            refine walkF_one none w4 rfl (by kernel_rfl) ?_; go_big_quiet_step (fail); refine wpQuiet_nil ?_
            refine walkF_make none w4 rfl rfl rfl (by kernel_rfl) (fun y => ?_) ?_
            · refine grow_call ?_ ((HRN.out y).mono ?_)
              · simp [execOp, go_sem]
              · rintro e w9 ⟨rfl, hw9⟩
                rw [hw9]
                exact ⟨_, rfl, below_alloc _ _, _, rfl, Blk.new _ _ _, (plus_below w4 y).size⟩
            intro V1 z1 hV1 g1
            obtain ⟨rq, rfl, bq, hq⟩ : ∃ g, V1 = .pointer (some ⟨g, 0, none⟩) ∧ Blk z1 g 52 #[.int .u64 ((1 : Nat) : Int), .slice none 0 0] ∧ w4.heap.size ≤ g := hV1
            conv => arg 11; simp [Act.put]
            iterate 4 (refine walkF_one none w4 rfl (by kernel_rfl) ?_; go_big_quiet_step (fail); refine wpQuiet_nil ?_)
            refine walkF_end ?_
            intro w9 h0 hE
            have kq : Below z1.heap.size z1 w9 := hE 1
            have HC := Lib.hid (does_new (o := ⟨kd, se, now⟩) HTM.out h0 (Blk.below bq kq bq.lt) hq HD.out.2.1 hT2 (by omega) hse hno)
            clear hE kq bq hq h0 g1 hpl x0 x1 x2 HRN HTM
            unfold celT at HC
            go_wp2_with fail
            refine HC.out.mono ?_
            rintro e wf ⟨r2, Mb2, rfl, k1, k2, k3⟩
            have H5 : Hid (T2 w2.heap.size w2 wf T qa Ma2 qb Mb2 [] ∧ Bm (i + 1) Ma2 ∧ Bm (i + 1) Mb2 ∧ lookM Ma2 m2 = lookM Mb2 m2) := Lib.hid ⟨T2.ofB k1, HK2.out.2, k3, by rw [HK2.out.1, k2]; exact stepF_own HD.out.2.2 HCC.out⟩
            clear k1 k2 k3 HC HBB
        case' neg =>
          have g3 : ((se : Int) == (m2 : Int)) = false := beq_eq_false_iff_ne.2 (by omega)
          have g4 : decide ((3 : Int) < (kd : Int) % 6) = false := decide_eq_false (by omega)
          have g5 : ¬ (se : Int) = (m2 : Int) := by omega
          have g6 : ¬ (3 : Int) < (kd : Int) % 6 := by omega
          obtain ⟨Mb2, hMb2⟩ : ∃ z, z = Mb := ⟨_, rfl⟩
          obtain ⟨wf, hwf⟩ : ∃ z, z = w4 := ⟨_, rfl⟩
          have H5 : Hid (T2 w2.heap.size w2 wf T qa Ma2 qb Mb2 [] ∧ Bm (i + 1) Ma2 ∧ Bm (i + 1) Mb2 ∧ lookM Ma2 m2 = lookM Mb2 m2) := Lib.hid (by
            rw [hMb2, hwf]
            refine ⟨H4.out, HK2.out.2, HD.out.2.1.mono, ?_⟩
            rw [HK2.out.1]
            exact (stepF_other (fun e => hc (.inl e)) (fun e => hc (.inr e))).trans HD.out.2.2)
          clear hc hMb2
          go_upto_region 13 with fail
          rw [← hwf]
          clear hwf
        all_goals
          obtain ⟨xa, hxa⟩ : ∃ x, x = (atD Ma2 m2).1 := ⟨_, rfl⟩
          obtain ⟨ia, hia⟩ : ∃ x, x = (lookM Ma2 m2).isSome := ⟨_, rfl⟩
          have hb1 : (atD Mb2 m2).1 = xa := by rw [hxa]; unfold atD; rw [H5.out.2.2.2]
          have hb2 : (lookM Mb2 m2).isSome = ia := by rw [hia, H5.out.2.2.2]
          obtain ⟨bb, hA⟩ := H5.out.1.asA
          have H6 := Lib.hid (tat_any hA m2 b2)
          rw [← hxa, ← hia] at H6
          have HBX : Hid (∀ W, T2 w2.heap.size w2 W T qa Ma2 qb Mb2 [] → Calls Try.prog 11 #[.pointer (some ⟨qb, 0, none⟩), .int .u32 ((m2 : Nat) : Int)] W fun e w' => e = .returned (.tuple #[.int .u64 ((xa : Nat) : Int), .bool ia]) ∧ T2 w2.heap.size w2 w' T qa Ma2 qb Mb2 []) := Lib.hid fun W h => by
            obtain ⟨ba, hB⟩ := h.asB
            have := tat_any hB m2 b2
            rw [hb1, hb2] at this
            exact this.mono fun e w' h => ⟨h.1, T2.ofB h.2⟩
          clear hxa hia hb1 hb2 hA c0 c1 c2
          go_wp2_with fail
          refine H6.out.mono ?_
          rintro e w5 ⟨rfl, h5⟩
          have H7 := Lib.hid (HBX.out _ (T2.ofA h5))
          clear h5 H6 HBX
          go_wp2_with fail
          refine H7.out.mono ?_
          rintro e w6 ⟨rfl, h6⟩
          have H8 := Lib.hid h6
          clear h6 H7
          go_wp2_with fail
          go_roundg (n - (i + 1))
          case measure => omega
          case rel => exact ⟨i + 1, by go_num, by omega, Lib.hid ⟨Ma2, Mb2, H8.out, H5.out.2⟩⟩
      · have hil : ¬ (i : Int) < (n : Int) := by omega
        have HZ : Hid (Below w.heap.size w wr) := Lib.hid (by obtain ⟨Ma, Mb, h1, -⟩ := HR.out; exact H2.out.trans (h1.sep.mono H2.out.size))
        clear hi
        go_wp2_with fail
        go_ret
        exact ⟨rfl, HZ.out⟩

end Go.Proofs.Ytgadedpcekiljaa
