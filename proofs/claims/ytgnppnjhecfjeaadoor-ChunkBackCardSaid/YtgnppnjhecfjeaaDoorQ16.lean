/- Joined: Xr6, Xr7. -/
import Derived.Test.YtgnppnjhecfjeaaDoorQ15
import Derived.Deep.RegionHeld3
import Derived.Test.YtgnppnjhecfjeaaDoorQ6
set_option linter.unusedSimpArgs false
set_option linter.unusedVariables false
/- The document's written of layer 3: another value. -/
namespace Go.Proofs.YtgnppnjhecfjeaaDoor
open Go.RowKit

theorem top_bit (D k : Nat) (h0 : D ≠ 0) (h : D < 2 ^ 64) (hk : k ≤ 64 - Lib.bitLen D) : D.testBit (63 - k) = decide (k = 64 - Lib.bitLen D) := by
  obtain ⟨h1, h2, h3, h4⟩ := bitLen_two D h0 h
  by_cases e : k = 64 - Lib.bitLen D
  · rw [decide_eq_true e, show 63 - k = Lib.bitLen D - 1 by omega, Nat.testBit_eq_decide_div_mod_eq, decide_eq_true_eq]
    have h5 : D / 2 ^ (Lib.bitLen D - 1) < 2 := by
      rw [Nat.div_lt_iff_lt_mul (Nat.two_pow_pos _), Nat.mul_comm, ← Nat.pow_succ, show (Lib.bitLen D - 1).succ = Lib.bitLen D by omega]
      exact h4
    have h6 : 1 ≤ D / 2 ^ (Lib.bitLen D - 1) := (Nat.le_div_iff_mul_le (Nat.two_pow_pos _)).2 (by rw [Nat.one_mul]; exact h3)
    omega
  · rw [decide_eq_false e, Nat.testBit_lt_two_pow]
    exact Nat.lt_of_lt_of_le h4 (Nat.pow_le_pow_right (by decide) (by omega))
theorem low_bit (D k : Nat) (h0 : D ≠ 0) (h : D < 2 ^ 64) (hk : k ≤ Lib.ctz 64 D) : D.testBit k = decide (k = Lib.ctz 64 D) := by
  obtain ⟨m, hm, hc⟩ := ctz_two D h0 h
  generalize Lib.ctz 64 D = c at *
  subst hm
  rw [Nat.testBit_eq_decide_div_mod_eq]
  by_cases e : k = c
  · subst e
    rw [Nat.mul_div_cancel_left _ (Nat.two_pow_pos _), decide_eq_true rfl, decide_eq_true_eq]
    omega
  · rw [decide_eq_false e, decide_eq_false_iff_not]
    obtain ⟨j, rfl⟩ : ∃ j, c = k + 1 + j := ⟨c - (k + 1), by omega⟩
    have : 2 ^ (k + 1 + j) * (2 * m + 1) / 2 ^ k = 2 * (2 ^ j * (2 * m + 1)) := by
      rw [show 2 ^ (k + 1 + j) * (2 * m + 1) = 2 ^ k * (2 * (2 ^ j * (2 * m + 1))) by rw [Nat.pow_add, Nat.pow_succ]; simp only [Nat.mul_assoc]]
      exact Nat.mul_div_cancel_left _ (Nat.two_pow_pos _)
    rw [this]
    omega
theorem bit_zero (D j : Nat) (hD : D < 18446744073709551616) : bits .and .u64 ((D : Int) / 2 ^ j) 1 = ((if D.testBit j then 1 else 0 : Nat) : Int) := by
  rw [nat_shr, xand_one_big _ (Nat.lt_of_le_of_lt (Nat.div_le_self _ _) hD), shr_bit]
  rfl
theorem holds_ends (D l b : Nat) (h0 : D ≠ 0) (h : D < 2 ^ 64) (hl : l + b ≤ 64) : holdsX l b D = true ↔ l ≤ 64 - Lib.bitLen D ∧ 64 - Lib.ctz 64 D ≤ l + b := by
  have hc := (ctz_two D h0 h).choose_spec.2
  have hb := bitLen_two D h0 h
  unfold holdsX
  rw [decide_eq_true_eq, ctz_dvd D h0 h, bitLen_lt D h0 h]
  omega

set_option maxRecDepth 100000 in
set_option maxHeartbeats 4000000 in
theorem written_other (p l b v : Nat) (w : World) (hv : v < 18446744073709551616) (hp : p < 18446744073709551616) (hs : soundX ⟨true, p, l, b⟩ = true) (hne : v ^^^ p ≠ 0) :
    Calls Tryd.prog 43 #[.agg #[.bool true, .int .u64 p, .int .u8 l, .int .u8 b], .int .u64 v] w fun e w' => WrOut ⟨true, p, l, b⟩ v w.heap.size e w' ∧ Below w.heap.size w w' := by
  have hmx : Tryd.prog.follows .mixedOrders = true := by kernel_rfl
  obtain ⟨D, hD⟩ : ∃ D, D = v ^^^ p := ⟨_, rfl⟩
  have hx : bits .xor .u64 (v : Int) (p : Int) = (D : Int) := by rw [xor_int v p hv hp, hD]
  have hDlt : D < 2 ^ 64 := by rw [hD]; exact xor_lt64 hv hp
  have hDlt' : D < 18446744073709551616 := hDlt
  rw [← hD] at hne
  unfold soundX at hs
  simp only [if_true, decide_eq_true_eq] at hs
  obtain ⟨hs1, hs2, hs3⟩ := hs
  obtain ⟨K, hK⟩ : ∃ K, K = 64 - Lib.bitLen D := ⟨_, rfl⟩
  obtain ⟨C, hC⟩ : ∃ C, C = Lib.ctz 64 D := ⟨_, rfl⟩
  have hKb : K ≤ 63 := by have := bitLen_two D hne hDlt; omega
  have hCb : C ≤ 63 := by have := (ctz_two D hne hDlt).choose_spec.2; omega
  have hKC : K + C ≤ 63 := by have := ctz_lt_len D hne hDlt; have := bitLen_two D hne hDlt; omega
  have HKbit : ∀ k, k ≤ K → bits .and .u64 ((D : Int) / 2 ^ (63 - k)) 1 = ((if k = K then 1 else 0 : Nat) : Int) := fun k hk => by
    rw [bit_zero D _ hDlt', top_bit D k hne hDlt (by rw [← hK]; exact hk), ← hK]
    by_cases e : k = K <;> simp [e]
  have HCbit : ∀ k, k ≤ C → bits .and .u64 ((D : Int) / 2 ^ k) 1 = ((if k = C then 1 else 0 : Nat) : Int) := fun k hk => by
    rw [bit_zero D _ hDlt', low_bit D k hne hDlt (by rw [← hC]; exact hk), ← hC]
    by_cases e : k = C <;> simp [e]
  have HKb := Lib.hid HKbit
  have HCb := Lib.hid HCbit
  have HD := Lib.hid hD
  have Hne := Lib.hid hne
  have HK := Lib.hid hK
  have HC := Lib.hid hC
  have hne' : ((D : Int) == 0) = false := beq_eq_false_iff_ne.2 (by omega)
  have Hs3 := Lib.hid hs3
  clear HKbit HCbit hD hne hK hC hs3
  have hl : l < 256 := by omega
  have hb : b < 256 := by omega
  have e1 : IntKind.i64.wrap (l : Int) = (l : Int) := by rw [IntKind.wrap_i64]; omega
  have e2 : IntKind.i64.wrap (b : Int) = (b : Int) := by rw [IntKind.wrap_i64]; omega
  go_enter Tryd.func43, Tryd.ntmps43
  go_wp2_with fail
  go_loop [8] (fun s => ∃ k : Nat, k ≤ K ∧ s = .int .i64 k) (fun s => K - (intOf s).toNat)
  case atStart => exact ⟨0, Nat.zero_le _, rfl⟩
  case round =>
    obtain ⟨k, hk, rfl⟩ := hrel
    obtain ⟨j, hj⟩ : ∃ j, j = 63 - k := ⟨_, rfl⟩
    have f1 : (63 : Int) - (k : Int) = (j : Int) := by omega
    have HB := HKb.out k hk
    rw [← hj] at HB
    rcases Nat.lt_or_ge k K with hlt | hge
    · rw [if_neg (by omega)] at HB
      clear hj
      go_wp2_with fail
      go_round
      case rel => exact ⟨k + 1, hlt, by go_num⟩
      case measure => simp [intOf]; omega
    · obtain rfl : k = K := by omega
      rw [if_pos rfl] at HB
      clear hj hge hk
      go_wp2_with fail
      clear HB f1
      go_loop [9] (fun s => ∃ q m : Nat, q ≤ C ∧ m + q = 64 ∧ s = .int .i64 m) (fun s => (intOf s).toNat)
      case atStart => exact ⟨0, 64, Nat.zero_le _, rfl, rfl⟩
      case round =>
        obtain ⟨q, m, hq, hqm, rfl⟩ := hrel
        have f1 : (64 : Int) - (m : Int) = (q : Int) := by omega
        have HB := HCb.out q hq
        have hm0 : 1 ≤ m := by omega
        have hm1 : m ≤ 64 := by omega
        rcases Nat.lt_or_ge q C with hlt | hge
        · rw [if_neg (by omega)] at HB
          have Hqm := Lib.hid hqm
          clear hqm
          go_wp2_with fail
          go_round
          case rel => exact ⟨q + 1, m - 1, hlt, by have := Hqm.out; omega, by congr 1; omega⟩
          case measure => simp [intOf]; omega
        · obtain rfl : q = C := by omega
          rw [if_pos rfl] at HB
          have Hqm := Lib.hid hqm
          clear hge hq hqm
          have HHolds := Lib.hid (holds_ends D l b Hne.out hDlt hs2)
          have hB0 : Blk ((w.alloc (.cells #[.bool true, .int .u64 v, .int .u8 l, .int .u8 b] 27)).alloc (.cells #[.bool false, .int .u64 0, .int .u8 0, .int .u8 0] 27)) w.heap.size 27 #[.bool true, .int .u64 v, .int .u8 l, .int .u8 b] := (Blk.new w _ _).alloc _
          have hB1 : Blk ((w.alloc (.cells #[.bool true, .int .u64 v, .int .u8 l, .int .u8 b] 27)).alloc (.cells #[.bool false, .int .u64 0, .int .u8 0, .int .u8 0] 27)) (w.heap.size + 1) 27 #[.bool false, .int .u64 0, .int .u8 0, .int .u8 0] := by
            have := Blk.new (w.alloc (.cells #[.bool true, .int .u64 v, .int .u8 l, .int .u8 b] 27)) 27 #[.bool false, .int .u64 0, .int .u8 0, .int .u8 0]
            rwa [World.size_alloc] at this
          have tA := below_alloc2 w (.cells #[.bool true, .int .u64 v, .int .u8 l, .int .u8 b] 27) (.cells #[.bool false, .int .u64 0, .int .u8 0, .int .u8 0] 27)
          have zA : ((w.alloc (.cells #[.bool true, .int .u64 v, .int .u8 l, .int .u8 b] 27)).alloc (.cells #[.bool false, .int .u64 0, .int .u8 0, .int .u8 0] 27)).heap.size = w.heap.size + 2 := by simp
          have HB1 := Lib.hid hB1
          have HB0 := Lib.hid hB0
          have HtA := Lib.hid tA
          have HzA := Lib.hid zA
          clear hB0 hB1 tA zA
          generalize (w.alloc (.cells #[.bool true, .int .u64 v, .int .u8 l, .int .u8 b] 27)).alloc (.cells #[.bool false, .int .u64 0, .int .u8 0, .int .u8 0] 27) = W at *
          obtain ⟨⟨q0, q1, q2, q3⟩, g0, g1, g2, g3⟩ := HB0.out.quad
          obtain ⟨hol, hhol⟩ : ∃ hol, hol = holdsX l b D := ⟨_, rfl⟩
          have Hhol := Lib.hid hhol
          clear hhol
          go_upto_region 14 with fail
          clear HB f1
          go_cut [69] (fun s wx => s = .bool hol ∧ wx = W)
          case first =>
            have Hm : Hid (hol = true ↔ (l ≤ k ∧ m ≤ l + b)) := Lib.hid (by rw [Hhol.out, HHolds.out, ← HK.out, ← HC.out, show 64 - q = m by have := Hqm.out; omega])
            go_wp2_with fail
            all_goals
              go_meet
              refine ⟨?_, rfl⟩
              congr 1
              have := Hm.out
              have := Hs3.out
              have := Hqm.out
              cases hol <;> simp at * <;> omega
          case rest =>
            obtain ⟨rfl, rfl⟩ := hcut
            have bw : ∀ l0 : List UInt8, Bs (wc.alloc (.cells (l0.map bv).toArray 5)) (some ⟨wc.heap.size, 0, none⟩) l0 := fun l0 => Blk.bs (Blk.new wc 5 (l0.map bv).toArray)
            have zz : w.heap.size + 2 ≤ wc.heap.size := by have := HzA.out; omega
            cases hol
            · have b11 := bw [1, 1]
              obtain ⟨L, hL⟩ : ∃ L, L = leadX D := ⟨_, rfl⟩
              obtain ⟨X, hX⟩ : ∃ X, X = widX D := ⟨_, rfl⟩
              obtain ⟨N1, N2, N3, N4, -⟩ := narrow_facts D Hne.out hDlt
              rw [← hL] at N1 N3 N4
              rw [← hX] at N2 N3 N4
              have hLk : L = min k 31 := by rw [hL, HK.out]; rfl
              have hXm : L + X = m := by have := Hqm.out; have := HC.out; omega
              have HL := Lib.hid hL
              have HX := Lib.hid hX
              have HXm := Lib.hid hXm
              clear hL hX hXm bw
              go_upto_region 17 with fail
              go_cut [8] (fun s wx => s = .int .i64 L ∧ wx = wc)
              case first =>
                rcases Nat.lt_or_ge 31 k with h31 | h31
                · have hL31 : L = 31 := by omega
                  have h31' : (31 : Int) < k := by omega
                  clear hLk
                  subst hL31
                  go_wp2_with fail
                  all_goals (first | (go_meet; exact ⟨rfl, rfl⟩) | (exfalso; omega))
                · have hL31 : L = k := by omega
                  have h31' : ¬ (31 : Int) < k := by omega
                  clear hLk
                  subst hL31
                  go_wp2_with fail
                  all_goals (first | (go_meet; exact ⟨rfl, rfl⟩) | (exfalso; omega) | (go_meet; refine ⟨?_, rfl⟩; congr 1; omega))
              case rest =>
                obtain ⟨rfl, rfl⟩ := hcut
                have t3a : True := trivial
                have b11' : Bs (wc.alloc (.cells ([1, 1].map bv).toArray 5)) (some ⟨wc.heap.size, 0, none⟩) [1, 1] := b11
                obtain ⟨X1, hX1⟩ : ∃ X1 : Nat, X1 = X - 1 := ⟨_, rfl⟩
                obtain ⟨nn, hnn⟩ : ∃ nn : Nat, nn = D / 2 ^ q := ⟨_, rfl⟩
                have hnl : nn < 18446744073709551616 := by rw [hnn]; exact Nat.lt_of_le_of_lt (Nat.div_le_self _ _) hDlt'
                have j1 : (m : Int) - (L : Int) = (X : Int) := by have := HXm.out; omega
                have j2 : (X : Int) - 1 = (X1 : Int) := by omega
                have j3 : IntKind.u64.wrap (X1 : Int) = (X1 : Int) := by rw [IntKind.wrap_u64]; omega
                have j4 : IntKind.u64.wrap (L : Int) = (L : Int) := by rw [IntKind.wrap_u64]; omega
                have j5 : (64 : Int) - (m : Int) = (q : Int) := by have := Hqm.out; omega
                have j6 : IntKind.u64.wrap (q : Int) = (q : Int) := by rw [IntKind.wrap_u64]; omega
                have j7 : (D : Int) / 2 ^ q = (nn : Int) := by rw [nat_shr, hnn]
                have j8 : IntKind.u8.wrap (L : Int) = (L : Int) := by rw [IntKind.wrap_u8]; omega
                have j9 : IntKind.u8.wrap (X : Int) = (X : Int) := by rw [IntKind.wrap_u8]; omega
                have hX64 : X ≤ 64 := by omega
                have hX1l : X1 < 64 := by omega
                have HX1 := Lib.hid hX1
                have Hnn := Lib.hid hnn
                clear hX1 hnn b11 hLk t3a
                go_wp2_with (at_builtin; go_must (refine appAll _ rfl (.tmp 95) (.tmp 96) rfl (w.heap.size + 2) _ [] rfl (OwnB.nil _ _) (some ⟨wc.heap.size, 0, none⟩) 2 [1, 1] rfl b11' (by simp) (by simp; omega) ?_); intro A3 c3 w3 o3 t3; rw [List.nil_append] at o3; have o3' : OwnB w3 (w.heap.size + 2) (.slice A3 2 c3) (u8s [true, true]) := o3)
                have t3' : Below (w.heap.size + 2) wc w3 := (((Below.refl _ wc).alloc zz _).trans t3)
                have z3 : w.heap.size + 2 ≤ w3.heap.size := Nat.le_trans zz t3'.size
                clear o3 q0 q1 q2 q3 g0 g1 g2 g3
                refine (rput_any (w.heap.size + 2) (.slice A3 2 c3) [true, true] L 5 wc w3 t3' (by omega) (by omega) o3' (by simp) z3).mono ?_
                rintro e w4 ⟨A4, n4, c4, rfl, hn4, o4, t4, z4⟩
                have Hn4 := Lib.hid hn4
                clear hn4
                go_wp2_with fail
                refine (rput_any (w.heap.size + 2) (.slice A4 n4 c4) ([true, true] ++ valB L 5) X1 6 wc w4 t4 (by omega) (by omega) o4 (by simp [valB_length]) z4).mono ?_
                rintro e w5 ⟨A5, n5, c5, rfl, hn5, o5, t5, z5⟩
                have Hn5 := Lib.hid hn5
                clear hn5
                go_wp2_with fail
                refine (rput_any (w.heap.size + 2) (.slice A5 n5 c5) ([true, true] ++ valB L 5 ++ valB X1 6) nn X wc w5 t5 hnl hX64 o5 (by simp [valB_length]) z5).mono ?_
                rintro e w6 ⟨A6, n6, c6, rfl, hn6, o6, t6, z6⟩
                have Hn6 := Lib.hid hn6
                clear hn6
                have HC0 := Lib.hid (HB0.out.below t6 (by omega) : Blk w6 w.heap.size 27 #[.bool true, .int .u64 v, .int .u8 l, .int .u8 b])
                have HC1 := Lib.hid (HB1.out.below t6 (by omega) : Blk w6 (w.heap.size + 1) 27 #[.bool false, .int .u64 0, .int .u8 0, .int .u8 0])
                obtain ⟨⟨q0, q1, q2, q3⟩, g0, g1, g2, g3⟩ := HC0.out.quad
                go_wp2_with fail
                have HD0 := Lib.hid (by simpa using (HC0.out.set 2 (.int .u8 L)).set 3 (.int .u8 X) : Blk ((w6.setCell ⟨w.heap.size, 2, none⟩ (.int .u8 L)).setCell ⟨w.heap.size, 3, none⟩ (.int .u8 X)) w.heap.size 27 #[.bool true, .int .u64 v, .int .u8 L, .int .u8 X])
                have HD1 := Lib.hid ((HC1.out.far ⟨w.heap.size, 2, none⟩ (.int .u8 L) (by simp)).far ⟨w.heap.size, 3, none⟩ (.int .u8 X) (by simp) : Blk ((w6.setCell ⟨w.heap.size, 2, none⟩ (.int .u8 L)).setCell ⟨w.heap.size, 3, none⟩ (.int .u8 X)) (w.heap.size + 1) 27 #[.bool false, .int .u64 0, .int .u8 0, .int .u8 0])
                have o7 := ((o6.far (p := ⟨w.heap.size, 2, none⟩) (o6.ne (by simp)) (.int .u8 L)).far (p := ⟨w.heap.size, 3, none⟩) ((o6.far (p := ⟨w.heap.size, 2, none⟩) (o6.ne (by simp)) (.int .u8 L)).ne (by simp)) (.int .u8 X))
                have t7 := ((HtA.out.trans (t6.mono (by omega))).setCell (p := ⟨w.heap.size, 2, none⟩) (Nat.le_refl _) (.int .u8 L)).setCell (p := ⟨w.heap.size, 3, none⟩) (Nat.le_refl _) (.int .u8 X)
                have z7 : w.heap.size + 2 ≤ ((w6.setCell ⟨w.heap.size, 2, none⟩ (.int .u8 L)).setCell ⟨w.heap.size, 3, none⟩ (.int .u8 X)).heap.size := by simp [World.setCell]; exact z6
                clear q0 q1 q2 q3 g0 g1 g2 g3
                generalize (w6.setCell ⟨w.heap.size, 2, none⟩ (.int .u8 L)).setCell ⟨w.heap.size, 3, none⟩ (.int .u8 X) = W7 at *
                have qq : ∀ x, (plus W7 x).cell? ⟨w.heap.size, 0, none⟩ = some (.bool true) ∧ (plus W7 x).cell? ⟨w.heap.size, 1, none⟩ = some (.int .u64 v) ∧ (plus W7 x).cell? ⟨w.heap.size, 2, none⟩ = some (.int .u8 L) ∧ (plus W7 x).cell? ⟨w.heap.size, 3, none⟩ = some (.int .u8 X) := fun x =>
                  ((HD0.out.below (plus_below W7 x) HD0.out.lt : Blk (plus W7 x) w.heap.size 27 #[.bool true, .int .u64 v, .int .u8 L, .int .u8 X])).quad.1
                refine wp_region_fresh_tail 3 [] [] (fun _ _ _ => True) hmx (by kernel_rfl) (by kernel_rfl) ?_
                simp only [List.take_succ_cons, List.take_zero, List.drop_succ_cons, List.drop_zero]
                iterate 3 (refine walkF_one none W7 rfl (by kernel_rfl) ?_; go_big_quiet_step (fail); refine wpQuiet_nil ?_)
                refine walkF_end ?_
                intro w' h0 hE
                have o8 := o7.below h0
                have HB := Lib.hid (HD1.out.below h0 HD1.out.lt : Blk w' (w.heap.size + 1) 27 #[.bool false, .int .u64 0, .int .u8 0, .int .u8 0])
                obtain ⟨⟨r0, r1, r2, r3⟩, k0, k1, k2, k3⟩ := HB.out.quad
                clear hE qq o7
                go_wp2_with fail
                have hF := HB.out.set4 (.bool true) (.int .u64 v) (.int .u8 L) (.int .u8 X)
                obtain ⟨⟨u0, u1, u2, u3⟩, -⟩ := hF.quad
                refine bodyPost_ret (v := .tuple #[.slice A6 n6 c6, .agg #[.bool true, .int .u64 v, .int .u8 L, .int .u8 X]]) (by simp [results, Tryd.results43, go_sem, u0, u1, u2, u3]) rfl ⟨?_, below_set4 (t7.trans (Below.mono h0 (by omega))) (by omega) _ _ _ _⟩
                have he : encX ⟨true, p, l, b⟩ v = ([true, true] ++ valB L 5 ++ valB X1 6 ++ valB nn X, ⟨true, v, L, X⟩) := by
                  unfold encX
                  simp only
                  rw [if_neg (by decide), ← HD.out, if_neg Hne.out, if_neg (by rw [← Hhol.out]; decide), ← HL.out, ← HX.out, show 64 - L - X = q by rw [N4, HC.out], ← Hnn.out, ← HX1.out]
                  simp
                unfold WrOut
                rw [he]
                exact ⟨A6, n6, c6, rfl, Hn6.out, (o8.far4 (by omega) _ _ _ _).mono (by omega)⟩
            · have b10 := bw [1, 0]
              obtain ⟨s0, hs0⟩ : ∃ s0 : Nat, s0 = 64 - l - b := ⟨_, rfl⟩
              have f2 : (64 : Int) - (l : Int) - (b : Int) = (s0 : Int) := by omega
              obtain ⟨nn, hnn⟩ : ∃ nn : Nat, nn = D / 2 ^ s0 := ⟨_, rfl⟩
              have f3 : (D : Int) / 2 ^ s0 = (nn : Int) := by rw [nat_shr, hnn]
              have hnl : nn < 18446744073709551616 := by rw [hnn]; exact Nat.lt_of_le_of_lt (Nat.div_le_self _ _) hDlt'
              have Hs0 := Lib.hid hs0
              have Hnn := Lib.hid hnn
              clear bw hs0 hnn
              go_wp2_with (at_builtin; go_must (refine appAll _ rfl (.tmp 70) (.tmp 71) rfl (w.heap.size + 2) _ [] rfl (OwnB.nil _ _) (some ⟨wc.heap.size, 0, none⟩) 2 [1, 0] rfl b10 (by simp) (by simp; omega) ?_); intro A3 c3 w3 o3 t3; rw [List.nil_append] at o3; have o3' : OwnB w3 (w.heap.size + 2) (.slice A3 2 c3) (u8s [true, false]) := o3)
              have tB := (HtA.out.mono (Nat.le_refl _))
              have t3' : Below (w.heap.size + 2) wc w3 := (((Below.refl _ wc).alloc zz _).trans t3)
              have z3 : w.heap.size + 2 ≤ w3.heap.size := Nat.le_trans zz t3'.size
              have HB0' := Lib.hid (HB0.out.below t3' (by omega))
              have HB1' := Lib.hid (HB1.out.below t3' (by omega))
              clear q0 q1 q2 q3 g0 g1 g2 g3
              obtain ⟨⟨q0, q1, q2, q3⟩, g0, g1, g2, g3⟩ := HB0'.out.quad
              clear o3
              have j1 : IntKind.i64.wrap (64 - (l : Int)) = 64 - (l : Int) := by rw [IntKind.wrap_i64]; omega
              have j2 : IntKind.i64.wrap (64 - (l : Int) - (b : Int)) = (s0 : Int) := by rw [IntKind.wrap_i64]; have := Hs0.out; omega
              have j3 : IntKind.u64.wrap (s0 : Int) = (s0 : Int) := by rw [IntKind.wrap_u64]; have := Hs0.out; omega
              have j4 : min s0 64 = s0 := by have := Hs0.out; omega
              clear f2
              go_region_held3 (fun w' => w'.cell? ⟨w.heap.size, 0, none⟩ = some (.bool true) ∧ w'.cell? ⟨w.heap.size, 1, none⟩ = some (.int .u64 v) ∧ w'.cell? ⟨w.heap.size, 2, none⟩ = some (.int .u8 l) ∧ w'.cell? ⟨w.heap.size, 3, none⟩ = some (.int .u8 b)) (first | exact ⟨q0, q1, q2, q3⟩ | exact ⟨r0, r1, r2, r3⟩ | go_keep)
                ((go_at_call 65; refine (rput_any (w.heap.size + 2) (.slice A3 2 c3) [true, false] nn b wc w3.drew t3'.drew hnl (by omega) o3'.drew (by simp) z3).mono ?_; rintro e w4 ⟨A4, n4, c4, rfl, hn4, o4, t4, z4⟩; have Hn4 := Lib.hid hn4; clear hn4; have HC1 := Lib.hid (HB1.out.below t4 (by omega)); obtain ⟨⟨r0, r1, r2, r3⟩, k0, k1, k2, k3⟩ := (HB0.out.below t4 (by omega)).quad; obtain ⟨⟨m0, m1, m2, m3⟩, n0, n1, n2, n3⟩ := HC1.out.quad))
              have HC1 := Lib.hid (HB1.out.below t4 (by omega) : Blk w4 (w.heap.size + 1) 27 #[.bool false, .int .u64 0, .int .u8 0, .int .u8 0])
              go_wp2_with fail
              have hF := HC1.out.set4 (.bool true) (.int .u64 v) (.int .u8 l) (.int .u8 b)
              obtain ⟨⟨u0, u1, u2, u3⟩, -⟩ := hF.quad
              refine bodyPost_ret (v := .tuple #[.slice A4 n4 c4, .agg #[.bool true, .int .u64 v, .int .u8 l, .int .u8 b]]) (by simp [results, Tryd.results43, go_sem, u0, u1, u2, u3]) rfl ⟨?_, below_set4 (HtA.out.trans (t4.mono (by omega))) (by omega) _ _ _ _⟩
              have he : encX ⟨true, p, l, b⟩ v = ([true, false] ++ valB nn b, ⟨true, v, l, b⟩) := by
                unfold encX
                simp only
                rw [if_neg (by decide), ← HD.out, if_neg Hne.out, if_pos Hhol.out.symm, ← Hs0.out, ← Hnn.out]
                rfl
              unfold WrOut
              rw [he]
              exact ⟨A4, n4, c4, rfl, Hn4.out, (o4.far4 (by omega) _ _ _ _).mono (by omega)⟩

end Go.Proofs.YtgnppnjhecfjeaaDoor

/- The document's written and Put of layer 3. -/
namespace Go.Proofs.YtgnppnjhecfjeaaDoor
open Go.RowKit

theorem written_any (h : Bool) (p l b v : Nat) (w : World) (hv : v < 18446744073709551616) (hp : p < 18446744073709551616) (hs : soundX ⟨h, p, l, b⟩ = true) :
    Calls Tryd.prog 43 #[.agg #[.bool h, .int .u64 p, .int .u8 l, .int .u8 b], .int .u64 v] w fun e w' => WrOut ⟨h, p, l, b⟩ v w.heap.size e w' ∧ Below w.heap.size w w' := by
  cases h
  · exact written_first p l b v w hv
  · by_cases hne : v ^^^ p = 0
    · obtain rfl := xor_zero_iff.1 hne
      exact written_same l b v w hv
    · exact written_other p l b v w hv hp hs hne

/-- what Put answers: bytes, their bits, what is known then, an error -/
def putX (l : List UInt8) (n : Int) (s : XV) (v : Nat) : List UInt8 × Nat × XV × Nat :=
  if soundB l n = false then ([], 0, xv0, 11) else if soundX s = false then ([], 0, xv0, 30)
  else (pack (bitl l n.toNat ++ (encX s v).1), (bitl l n.toNat ++ (encX s v).1).length, (encX s v).2, 0)
def PutOut (P : List UInt8 × Nat × XV × Nat) (kind : IntKind) (base : Nat) (e : Ending) (w : World) : Prop :=
  ∃ A' n' c', n' = P.1.length ∧ e = .returned (.tuple #[.agg #[.slice A' n' c', .int .i64 (P.2.1 : Nat)], .agg #[.bool P.2.2.1.has, .int .u64 (P.2.2.1.prev : Nat), .int .u8 (P.2.2.1.lead : Nat), .int .u8 (P.2.2.1.width : Nat)], .int kind (P.2.2.2 : Nat)]) ∧ OwnB w base (.slice A' n' c') P.1

/-- four boxes that a call laid: two that hold what came, two for its results -/
structure Four (w W : World) (b0 : Array Value) (b1 : Array Value) (b2 : Array Value) (b3 : Array Value) (t0 t1 : TypeId) : Prop where
  h0 : Blk W w.heap.size t0 b0
  h1 : Blk W (w.heap.size + 1) t1 b1
  h2 : Blk W (w.heap.size + 2) t0 b2
  h3 : Blk W (w.heap.size + 3) t1 b3
  t : Below w.heap.size w W
  z : w.heap.size + 4 ≤ W.heap.size
theorem four_new (w : World) (b0 b1 b2 b3 : Array Value) (t0 t1 : TypeId) : Four w ((((w.alloc (.cells b0 t0)).alloc (.cells b1 t1)).alloc (.cells b2 t0)).alloc (.cells b3 t1)) b0 b1 b2 b3 t0 t1 := by
  have s1 : (w.alloc (.cells b0 t0)).heap.size = w.heap.size + 1 := by simp
  have s2 : ((w.alloc (.cells b0 t0)).alloc (.cells b1 t1)).heap.size = w.heap.size + 2 := by simp
  have s3 : (((w.alloc (.cells b0 t0)).alloc (.cells b1 t1)).alloc (.cells b2 t0)).heap.size = w.heap.size + 3 := by simp
  refine ⟨(((Blk.new w t0 b0).alloc _).alloc _).alloc _, ?_, ?_, ?_, ?_, by simp⟩
  · have := ((Blk.new (w.alloc (.cells b0 t0)) t1 b1).alloc (.cells b2 t0)).alloc (.cells b3 t1)
    rwa [s1] at this
  · have := (Blk.new ((w.alloc (.cells b0 t0)).alloc (.cells b1 t1)) t0 b2).alloc (.cells b3 t1)
    rwa [s2] at this
  · have := Blk.new (((w.alloc (.cells b0 t0)).alloc (.cells b1 t1)).alloc (.cells b2 t0)) t1 b3
    rwa [s3] at this
  · exact (((below_alloc w _).alloc (by simp) _).alloc (by simp; omega) _).alloc (by simp; omega) _
theorem Four.on {w W W' : World} {b0 b1 b2 b3 : Array Value} {t0 t1 : TypeId} (h : Four w W b0 b1 b2 b3 t0 t1) (hb : Below (w.heap.size + 4) W W') : Four w W' b0 b1 b2 b3 t0 t1 :=
  ⟨h.h0.below hb (by omega), h.h1.below hb (by omega), h.h2.below hb (by omega), h.h3.below hb (by omega), h.t.trans (hb.mono (by omega)), Nat.le_trans h.z hb.size⟩
theorem Four.go {w W W' : World} {b0 b1 b2 b3 : Array Value} {t0 t1 : TypeId} (h : Four w W b0 b1 b2 b3 t0 t1) (hb : Below W.heap.size W W') : Four w W' b0 b1 b2 b3 t0 t1 := h.on (hb.mono h.z)

/-- the two results, stored -/
theorem Four.fin {w W : World} {b0 b1 : Array Value} {x0 x1 y0 y1 y2 y3 : Value} {t0 t1 : TypeId} (h : Four w W b0 b1 #[x0, x1] #[y0, y1, y2, y3] t0 t1) (a b c d e f : Value) :
    Four w ((((((W.setCell ⟨w.heap.size + 2, 0, none⟩ a).setCell ⟨w.heap.size + 2, 1, none⟩ b).setCell ⟨w.heap.size + 3, 0, none⟩ c).setCell ⟨w.heap.size + 3, 1, none⟩ d).setCell ⟨w.heap.size + 3, 2, none⟩ e).setCell ⟨w.heap.size + 3, 3, none⟩ f) b0 b1 #[a, b] #[c, d, e, f] t0 t1 := by
  have n2 : ∀ {g : Nat} {cs : Array Value} {t : TypeId} {V : World}, Blk V g t cs → g ≠ w.heap.size + 2 → g ≠ w.heap.size + 3 → ∀ (i j : Nat) (u u' : Value), Blk (V.setCell ⟨w.heap.size + 2, i, none⟩ u) g t cs ∧ Blk (V.setCell ⟨w.heap.size + 3, j, none⟩ u') g t cs :=
    fun hb h2 h3 i j u u' => ⟨hb.far _ _ h2, hb.far _ _ h3⟩
  refine ⟨?_, ?_, ?_, ?_, ?_, ?_⟩
  · exact (((((h.h0.far _ _ (by simp)).far _ _ (by simp)).far _ _ (by simp)).far _ _ (by simp)).far _ _ (by simp)).far _ _ (by simp)
  · exact (((((h.h1.far _ _ (by simp)).far _ _ (by simp)).far _ _ (by simp)).far _ _ (by simp)).far _ _ (by simp)).far _ _ (by simp)
  · exact ((((h.h2.set2 a b).far _ _ (by simp)).far _ _ (by simp)).far _ _ (by simp)).far _ _ (by simp)
  · exact (((h.h3.far _ _ (by simp)).far _ _ (by simp)).set4 c d e f)
  · exact below_set4 ((h.t.setCell (p := ⟨w.heap.size + 2, 0, none⟩) (by simp) a).setCell (p := ⟨w.heap.size + 2, 1, none⟩) (by simp) b) (by omega) c d e f
  · simp [World.setCell]; exact h.z
theorem OwnB.fin {w W : World} {base : Nat} {V : Value} {l : List UInt8} (h : OwnB W base V l) (hb : w.heap.size + 4 ≤ base) (a b c d e f : Value) :
    OwnB ((((((W.setCell ⟨w.heap.size + 2, 0, none⟩ a).setCell ⟨w.heap.size + 2, 1, none⟩ b).setCell ⟨w.heap.size + 3, 0, none⟩ c).setCell ⟨w.heap.size + 3, 1, none⟩ d).setCell ⟨w.heap.size + 3, 2, none⟩ e).setCell ⟨w.heap.size + 3, 3, none⟩ f) w.heap.size V l := by
  have h1 := h.far (h.ne (show w.heap.size + 2 < base by omega)) (p := ⟨w.heap.size + 2, 0, none⟩) a
  have h2 := h1.far (h1.ne (show w.heap.size + 2 < base by omega)) (p := ⟨w.heap.size + 2, 1, none⟩) b
  exact (h2.far4 (show w.heap.size + 3 < base by omega) c d e f).mono (by omega)

set_option maxRecDepth 100000 in
set_option maxHeartbeats 2000000 in
theorem rxput_any (A : Option Addr) (c : Nat) (l : List UInt8) (n : Int) (h : Bool) (p ld b v : Nat) (w : World) (hb : Bs w A l) (hn : -9223372036854775808 ≤ n ∧ n ≤ 9223372036854775807) (hl : l.length ≤ 100000)
    (hv : v < 18446744073709551616) (hp : p < 18446744073709551616) (hld : ld < 256) (hbb : b < 256) :
    Calls Tryd.prog 54 #[.agg #[.slice A l.length c, .int .i64 n], .agg #[.bool h, .int .u64 p, .int .u8 ld, .int .u8 b], .int .u64 v] w fun e w' => PutOut (putX l n ⟨h, p, ld, b⟩ v) .i64 w.heap.size e w' ∧ Below w.heap.size w w' := by
  have F := four_new w #[.slice A l.length c, .int .i64 n] #[.bool h, .int .u64 p, .int .u8 ld, .int .u8 b] #[.slice none 0 0, .int .i64 0] #[.bool false, .int .u64 0, .int .u8 0, .int .u8 0] 24 27
  have hl' : l.length ≤ 1099511627776 := by omega
  go_enter Tryd.func54, Tryd.ntmps54
  go_wp2_with fail
  have hb0 := hb.below F.t
  have HF := Lib.hid F
  clear F
  generalize (((w.alloc (.cells #[.slice A l.length c, .int .i64 n] 24)).alloc (.cells #[.bool h, .int .u64 p, .int .u8 ld, .int .u8 b] 27)).alloc (.cells #[.slice none 0 0, .int .i64 0] 24)).alloc (.cells #[.bool false, .int .u64 0, .int .u8 0, .int .u8 0] 27) = W at *
  refine (refSound_any A c l n W hb0 hn hl').mono ?_
  rintro e w1 ⟨rfl, b1⟩
  have F1 := HF.out.go b1
  have HF1 := Lib.hid F1
  obtain ⟨⟨q0, q1, q2, q3⟩, g0, g1, g2, g3⟩ := F1.h3.quad
  obtain ⟨⟨y0, y1⟩, x0, x1⟩ := F1.h2.duo
  obtain ⟨⟨u0, u1, u2, u3⟩, -⟩ := F1.h1.quad
  obtain ⟨⟨v0, v1⟩, -⟩ := F1.h0.duo
  have a1 := hb0.below b1
  clear F1
  cases hs : soundB l n
  · have Hs := Lib.hid hs
    clear hs
    go_wp2_with fail
    have FF := HF1.out.fin (.slice none 0 0) (.int .i64 0) (.bool false) (.int .u64 0) (.int .u8 0) (.int .u8 0)
    obtain ⟨⟨s0, s1, s2, s3⟩, -⟩ := FF.h3.quad
    obtain ⟨⟨r0, r1⟩, -⟩ := FF.h2.duo
    refine bodyPost_ret (v := .tuple #[.agg #[.slice none 0 0, .int .i64 0], .agg #[.bool false, .int .u64 0, .int .u8 0, .int .u8 0], .int .i64 11]) (by simp [results, Tryd.results54, go_sem, r0, r1, s0, s1, s2, s3]) rfl ⟨?_, FF.t⟩
    unfold putX
    rw [if_pos Hs.out]
    exact ⟨none, 0, 0, rfl, rfl, OwnB.nil _ _⟩
  · have Hs := Lib.hid hs
    clear hs
    go_wp2_with fail
    refine (rxsound_any h p ld b _ hld hbb).mono ?_
    rintro e w2 ⟨rfl, b2⟩
    have HF2 := Lib.hid (HF1.out.go b2)
    clear q0 q1 q2 q3 g0 g1 g2 g3 y0 y1 x0 x1 u0 u1 u2 u3 v0 v1
    obtain ⟨⟨q0, q1, q2, q3⟩, g0, g1, g2, g3⟩ := HF2.out.h3.quad
    obtain ⟨⟨y0, y1⟩, x0, x1⟩ := HF2.out.h2.duo
    obtain ⟨⟨u0, u1, u2, u3⟩, -⟩ := HF2.out.h1.quad
    obtain ⟨⟨v0, v1⟩, -⟩ := HF2.out.h0.duo
    have a2 := a1.below b2
    cases hx : soundX ⟨h, p, ld, b⟩
    · have Hx := Lib.hid hx
      clear hx
      go_wp2_with fail
      have FF := HF2.out.fin (.slice none 0 0) (.int .i64 0) (.bool false) (.int .u64 0) (.int .u8 0) (.int .u8 0)
      obtain ⟨⟨s0, s1, s2, s3⟩, -⟩ := FF.h3.quad
      obtain ⟨⟨r0, r1⟩, -⟩ := FF.h2.duo
      refine bodyPost_ret (v := .tuple #[.agg #[.slice none 0 0, .int .i64 0], .agg #[.bool false, .int .u64 0, .int .u8 0, .int .u8 0], .int .i64 30]) (by simp [results, Tryd.results54, go_sem, r0, r1, s0, s1, s2, s3]) rfl ⟨?_, FF.t⟩
      unfold putX
      rw [if_neg (by rw [Hs.out]; decide), if_pos Hx.out]
      exact ⟨none, 0, 0, rfl, rfl, OwnB.nil _ _⟩
    · obtain ⟨m, hm, hm8, -⟩ := sound_nat Hs.out
      obtain ⟨S, hS⟩ : ∃ S : XV, S = ⟨h, p, ld, b⟩ := ⟨_, rfl⟩
      have Hx := Lib.hid hx
      clear hx
      subst hm
      go_wp2_with fail
      refine (written_any h p ld b v _ hv hp Hx.out).mono ?_
      rintro e w3 ⟨HW, b3⟩
      obtain ⟨A3, n3, c3, rfl, hn3, o3⟩ := HW
      have hlen := enc_len (s := ⟨h, p, ld, b⟩) (v := v) Hx.out hp hv
      obtain ⟨M, th, tp, tl, tb, hMT⟩ : ∃ M th tp tl tb, encX ⟨h, p, ld, b⟩ v = (M, ⟨th, tp, tl, tb⟩) := ⟨_, _, _, _, _, rfl⟩
      simp only [hMT] at hn3 o3 hlen ⊢
      have HMT := Lib.hid hMT
      have HF3 := Lib.hid (HF2.out.go b3)
      clear q0 q1 q2 q3 g0 g1 g2 g3 y0 y1 x0 x1 u0 u1 u2 u3 v0 v1 hMT hS
      obtain ⟨⟨q0, q1, q2, q3⟩, g0, g1, g2, g3⟩ := HF3.out.h3.quad
      obtain ⟨⟨y0, y1⟩, x0, x1⟩ := HF3.out.h2.duo
      obtain ⟨⟨v0, v1⟩, -⟩ := HF3.out.h0.duo
      have a3 := a2.below b3
      have hmm : m ≤ 8 * l.length := by omega
      have Hn3 := Lib.hid hn3
      have HBX := Lib.hid (Blk.new w3 27 #[.bool th, .int .u64 tp, .int .u8 tl, .int .u8 tb])
      have HA3 := Lib.hid (a3.below (below_alloc w3 (.cells #[.bool th, .int .u64 tp, .int .u8 tl, .int .u8 tb] 27)))
      obtain ⟨BS, hBS⟩ : ∃ BS, BS = bitl l m ++ M := ⟨_, rfl⟩
      have HBS := Lib.hid hBS
      have HN : Hid ((u8s (bitl l m)).length + (u8s M).length = BS.length) := Lib.hid (by rw [hBS, u8s_length, u8s_length, List.length_append])
      have HU : Hid (u8s (bitl l m) ++ u8s M = u8s BS) := Lib.hid (by rw [hBS, u8s_append])
      have hBSl : BS.length ≤ 1000000 := by rw [hBS, List.length_append, bitl_length]; omega
      have HMl : Hid (M.length ≤ 77) := Lib.hid hlen.2
      clear hn3 hBS hlen
      have kA := keepA
      have kF := keepF
      go_wp2_with (first
        | (go_at_call 73; refine (refList_any A c l m _ HA3.out hmm hl').mono ?_; rintro e w4 ⟨A4, c4, rfl, o4, b4⟩; have t4 := b4.mono (Nat.le_refl _))
        | (at_builtin; refine appAll _ rfl (.tmp 34) (.tmp 35) rfl (w3.heap.size + 1) _ (u8s (bitl l m)) rfl (o4.mono (by simp)) A3 c3 (u8s M) (congrArg (fun k => Value.slice A3 k c3) (Hn3.out.trans (u8s_length M).symm)) ((o3.below (below_alloc w3 _)).below b4).bs (by rw [u8s_length, u8s_length, bitl_length]; have := HMl.out; omega) (by have := b4.size; simp at this; omega) ?_; intro A5 c5 w5 o5 b5; rw [HU.out, HN.out] at o5; rw [HN.out]))
      have b35 : Below (w3.heap.size + 1) (w3.alloc (.cells #[.bool th, .int .u64 tp, .int .u8 tl, .int .u8 tb] 27)) w5 := (b4.mono (by simp)).trans b5
      have HF5 := Lib.hid (HF3.out.on (((below_alloc w3 (.cells #[.bool th, .int .u64 tp, .int .u8 tl, .int .u8 tb] 27)).mono HF3.out.z).trans (b35.mono (by have := HF3.out.z; omega))))
      have HBX5 := Lib.hid (HBX.out.below b35 (by omega) : Blk w5 w3.heap.size 27 #[.bool th, .int .u64 tp, .int .u8 tl, .int .u8 tb])
      clear kA kF q0 q1 q2 q3 g0 g1 g2 g3 y0 y1 x0 x1 v0 v1
      obtain ⟨⟨q0, q1, q2, q3⟩, -⟩ := HBX5.out.quad
      have HOf := Lib.hid (refOf_any A5 c5 BS w5.drew o5.bs (by omega))
      have lt5 : w3.heap.size < w5.heap.size := HBX5.out.lt
      have keepBX : ∀ W, Below w5.heap.size w5 W → Blk W w3.heap.size 27 #[.bool th, .int .u64 tp, .int .u8 tl, .int .u8 tb] := fun W hW => HBX5.out.below hW lt5
      have HkB := Lib.hid keepBX
      clear keepBX
      have ne1 : ¬ w3.heap.size = w.heap.size + 2 := by have := HF3.out.z; omega
      have ne2 : ¬ w3.heap.size = w.heap.size + 3 := by have := HF3.out.z; omega
      have ne3 : ¬ w.heap.size + 2 = w3.heap.size := by omega
      have ne4 : ¬ w.heap.size + 3 = w3.heap.size := by omega
      have dq : w5.drew.cell? ⟨w3.heap.size, 0, none⟩ = some (.bool th) ∧ w5.drew.cell? ⟨w3.heap.size, 1, none⟩ = some (.int .u64 tp) ∧ w5.drew.cell? ⟨w3.heap.size, 2, none⟩ = some (.int .u8 tl) ∧ w5.drew.cell? ⟨w3.heap.size, 3, none⟩ = some (.int .u8 tb) := ⟨q0, q1, q2, q3⟩
      go_region_held3 (fun w' => w'.cell? ⟨w3.heap.size, 0, none⟩ = some (.bool th) ∧ w'.cell? ⟨w3.heap.size, 1, none⟩ = some (.int .u64 tp) ∧ w'.cell? ⟨w3.heap.size, 2, none⟩ = some (.int .u8 tl) ∧ w'.cell? ⟨w3.heap.size, 3, none⟩ = some (.int .u8 tb)) (first | with_reducible exact dq | with_reducible exact ⟨r0, r1, r2, r3⟩ | (simp [World.cell?_setCell_far, ne3, ne4, r0, r1, r2, r3]))
        ((go_at_call 49; refine HOf.out.mono ?_; rintro e w6 ⟨A6, c6, rfl, o6, b6'⟩; have b6 : Below w5.heap.size w5 w6 := ⟨b6'.os, b6'.tape, b6'.output, b6'.size, b6'.block⟩; have HF6 := Lib.hid (HF5.out.go (W' := w6) b6); obtain ⟨⟨r0, r1, r2, r3⟩, k0, k1, k2, k3⟩ := (HkB.out w6 b6).quad; obtain ⟨⟨m0, m1, m2, m3⟩, n0, n1, n2, n3⟩ := HF6.out.h3.quad; obtain ⟨⟨y0, y1⟩, x0, x1⟩ := HF6.out.h2.duo))
      go_wp2_with fail
      have FF := HF6.out.fin (.slice A6 (pack BS).length c6) (.int .i64 BS.length) (.bool th) (.int .u64 tp) (.int .u8 tl) (.int .u8 tb)
      obtain ⟨⟨s0, s1, s2, s3⟩, -⟩ := FF.h3.quad
      obtain ⟨⟨z0, z1⟩, -⟩ := FF.h2.duo
      refine bodyPost_ret (v := .tuple #[.agg #[.slice A6 (pack BS).length c6, .int .i64 BS.length], .agg #[.bool th, .int .u64 tp, .int .u8 tl, .int .u8 tb], .int .i64 0]) (by simp [results, Tryd.results54, go_sem, z0, z1, s0, s1, s2, s3]) rfl ⟨?_, FF.t⟩
      have he : putX l m ⟨h, p, ld, b⟩ v = (pack BS, BS.length, ⟨th, tp, tl, tb⟩, 0) := by
        unfold putX
        rw [if_neg (by rw [Hs.out]; decide), if_neg (by rw [Hx.out]; decide), HMT.out, Int.toNat_natCast, ← HBS.out]
      rw [he]
      exact ⟨A6, _, c6, rfl, rfl, OwnB.fin o6 HF5.out.z _ _ _ _ _ _⟩

end Go.Proofs.YtgnppnjhecfjeaaDoor
