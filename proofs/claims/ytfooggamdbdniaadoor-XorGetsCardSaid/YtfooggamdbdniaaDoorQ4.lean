/- Joined: Xr6, Ref2, Xr7, Bit7, Bit8, Xr14, Xr15, MathG, Xr17. -/
import Derived.Test.YtfooggamdbdniaaDoorQ2
import Derived.Deep.RegionHeld3
import Derived.Test.YtfooggamdbdniaaDoorQ1
import Derived.Test.YtfooggamdbdniaaDoorQ3
import Derived.Maps.Range
import Derived.Outline
set_option linter.unusedSimpArgs false
set_option linter.unusedVariables false
/- The document's written of layer 3: another value. -/
namespace Go.Proofs.YtfooggamdbdniaaDoor
open Go.RowKit

theorem top_bit (D k : Nat) (h0 : D ≠ 0) (h : D < 2 ^ 64) (hk : k ≤ 64 - Lib.bitLen D) : D.testBit (63 - k) = decide (k = 64 - Lib.bitLen D) := by
  obtain ⟨h1, h2, h3, h4⟩ := bitLen_two D h0 h
  by_cases e : k = 64 - Lib.bitLen D
  · rw [decide_eq_true e, show 63 - k = Lib.bitLen D - 1 by omega, Nat.testBit_eq_decide_div_mod_eq, decide_eq_true_eq]
    have h5 : D / 2 ^ (Lib.bitLen D - 1) < 2 := by
      rw [Nat.div_lt_iff_lt_mul (Nat.two_pow_pos _), Nat.mul_comm, ← Nat.pow_succ, show (Lib.bitLen D - 1).succ = Lib.bitLen D by omega]
      exact h4
    have h6 : 1 ≤ D / 2 ^ (Lib.bitLen D - 1) := (Nat.le_div_iff_mul_le (Nat.two_pow_pos _)).2 (by rw [Nat.one_mul]; exact h3)
    omega
  · rw [decide_eq_false e, Nat.testBit_lt_two_pow]
    exact Nat.lt_of_lt_of_le h4 (Nat.pow_le_pow_right (by decide) (by omega))
theorem low_bit (D k : Nat) (h0 : D ≠ 0) (h : D < 2 ^ 64) (hk : k ≤ Lib.ctz 64 D) : D.testBit k = decide (k = Lib.ctz 64 D) := by
  obtain ⟨m, hm, hc⟩ := ctz_two D h0 h
  generalize Lib.ctz 64 D = c at *
  subst hm
  rw [Nat.testBit_eq_decide_div_mod_eq]
  by_cases e : k = c
  · subst e
    rw [Nat.mul_div_cancel_left _ (Nat.two_pow_pos _), decide_eq_true rfl, decide_eq_true_eq]
    omega
  · rw [decide_eq_false e, decide_eq_false_iff_not]
    obtain ⟨j, rfl⟩ : ∃ j, c = k + 1 + j := ⟨c - (k + 1), by omega⟩
    have : 2 ^ (k + 1 + j) * (2 * m + 1) / 2 ^ k = 2 * (2 ^ j * (2 * m + 1)) := by
      rw [show 2 ^ (k + 1 + j) * (2 * m + 1) = 2 ^ k * (2 * (2 ^ j * (2 * m + 1))) by rw [Nat.pow_add, Nat.pow_succ]; simp only [Nat.mul_assoc]]
      exact Nat.mul_div_cancel_left _ (Nat.two_pow_pos _)
    rw [this]
    omega
theorem bit_zero (D j : Nat) (hD : D < 18446744073709551616) : bits .and .u64 ((D : Int) / 2 ^ j) 1 = ((if D.testBit j then 1 else 0 : Nat) : Int) := by
  rw [nat_shr, xand_one_big _ (Nat.lt_of_le_of_lt (Nat.div_le_self _ _) hD), shr_bit]
  rfl
theorem holds_ends (D l b : Nat) (h0 : D ≠ 0) (h : D < 2 ^ 64) (hl : l + b ≤ 64) : holdsX l b D = true ↔ l ≤ 64 - Lib.bitLen D ∧ 64 - Lib.ctz 64 D ≤ l + b := by
  have hc := (ctz_two D h0 h).choose_spec.2
  have hb := bitLen_two D h0 h
  unfold holdsX
  rw [decide_eq_true_eq, ctz_dvd D h0 h, bitLen_lt D h0 h]
  omega

set_option maxRecDepth 100000 in
set_option maxHeartbeats 4000000 in
theorem written_other (p l b v : Nat) (w : World) (hv : v < 18446744073709551616) (hp : p < 18446744073709551616) (hs : soundX ⟨true, p, l, b⟩ = true) (hne : v ^^^ p ≠ 0) :
    Calls Tryd.prog 24 #[.agg #[.bool true, .int .u64 p, .int .u8 l, .int .u8 b], .int .u64 v] w fun e w' => WrOut ⟨true, p, l, b⟩ v w.heap.size e w' ∧ Below w.heap.size w w' := by
  have hmx : Tryd.prog.follows .mixedOrders = true := by kernel_rfl
  obtain ⟨D, hD⟩ : ∃ D, D = v ^^^ p := ⟨_, rfl⟩
  have hx : bits .xor .u64 (v : Int) (p : Int) = (D : Int) := by rw [xor_int v p hv hp, hD]
  have hDlt : D < 2 ^ 64 := by rw [hD]; exact xor_lt64 hv hp
  have hDlt' : D < 18446744073709551616 := hDlt
  rw [← hD] at hne
  unfold soundX at hs
  simp only [if_true, decide_eq_true_eq] at hs
  obtain ⟨hs1, hs2, hs3⟩ := hs
  obtain ⟨K, hK⟩ : ∃ K, K = 64 - Lib.bitLen D := ⟨_, rfl⟩
  obtain ⟨C, hC⟩ : ∃ C, C = Lib.ctz 64 D := ⟨_, rfl⟩
  have hKb : K ≤ 63 := by have := bitLen_two D hne hDlt; omega
  have hCb : C ≤ 63 := by have := (ctz_two D hne hDlt).choose_spec.2; omega
  have hKC : K + C ≤ 63 := by have := ctz_lt_len D hne hDlt; have := bitLen_two D hne hDlt; omega
  have HKbit : ∀ k, k ≤ K → bits .and .u64 ((D : Int) / 2 ^ (63 - k)) 1 = ((if k = K then 1 else 0 : Nat) : Int) := fun k hk => by
    rw [bit_zero D _ hDlt', top_bit D k hne hDlt (by rw [← hK]; exact hk), ← hK]
    by_cases e : k = K <;> simp [e]
  have HCbit : ∀ k, k ≤ C → bits .and .u64 ((D : Int) / 2 ^ k) 1 = ((if k = C then 1 else 0 : Nat) : Int) := fun k hk => by
    rw [bit_zero D _ hDlt', low_bit D k hne hDlt (by rw [← hC]; exact hk), ← hC]
    by_cases e : k = C <;> simp [e]
  have HKb := Lib.hid HKbit
  have HCb := Lib.hid HCbit
  have HD := Lib.hid hD
  have Hne := Lib.hid hne
  have HK := Lib.hid hK
  have HC := Lib.hid hC
  have hne' : ((D : Int) == 0) = false := beq_eq_false_iff_ne.2 (by omega)
  have Hs3 := Lib.hid hs3
  clear HKbit HCbit hD hne hK hC hs3
  have hl : l < 256 := by omega
  have hb : b < 256 := by omega
  have e1 : IntKind.i64.wrap (l : Int) = (l : Int) := by rw [IntKind.wrap_i64]; omega
  have e2 : IntKind.i64.wrap (b : Int) = (b : Int) := by rw [IntKind.wrap_i64]; omega
  go_enter Tryd.func24, Tryd.ntmps24
  go_wp2_with fail
  go_loop [8] (fun s => ∃ k : Nat, k ≤ K ∧ s = .int .i64 k) (fun s => K - (intOf s).toNat)
  case atStart => exact ⟨0, Nat.zero_le _, rfl⟩
  case round =>
    obtain ⟨k, hk, rfl⟩ := hrel
    obtain ⟨j, hj⟩ : ∃ j, j = 63 - k := ⟨_, rfl⟩
    have f1 : (63 : Int) - (k : Int) = (j : Int) := by omega
    have HB := HKb.out k hk
    rw [← hj] at HB
    rcases Nat.lt_or_ge k K with hlt | hge
    · rw [if_neg (by omega)] at HB
      clear hj
      go_wp2_with fail
      go_round
      case rel => exact ⟨k + 1, hlt, by go_num⟩
      case measure => simp [intOf]; omega
    · obtain rfl : k = K := by omega
      rw [if_pos rfl] at HB
      clear hj hge hk
      go_wp2_with fail
      clear HB f1
      go_loop [9] (fun s => ∃ q m : Nat, q ≤ C ∧ m + q = 64 ∧ s = .int .i64 m) (fun s => (intOf s).toNat)
      case atStart => exact ⟨0, 64, Nat.zero_le _, rfl, rfl⟩
      case round =>
        obtain ⟨q, m, hq, hqm, rfl⟩ := hrel
        have f1 : (64 : Int) - (m : Int) = (q : Int) := by omega
        have HB := HCb.out q hq
        have hm0 : 1 ≤ m := by omega
        have hm1 : m ≤ 64 := by omega
        rcases Nat.lt_or_ge q C with hlt | hge
        · rw [if_neg (by omega)] at HB
          have Hqm := Lib.hid hqm
          clear hqm
          go_wp2_with fail
          go_round
          case rel => exact ⟨q + 1, m - 1, hlt, by have := Hqm.out; omega, by congr 1; omega⟩
          case measure => simp [intOf]; omega
        · obtain rfl : q = C := by omega
          rw [if_pos rfl] at HB
          have Hqm := Lib.hid hqm
          clear hge hq hqm
          have HHolds := Lib.hid (holds_ends D l b Hne.out hDlt hs2)
          have hB0 : Blk ((w.alloc (.cells #[.bool true, .int .u64 v, .int .u8 l, .int .u8 b] 24)).alloc (.cells #[.bool false, .int .u64 0, .int .u8 0, .int .u8 0] 24)) w.heap.size 24 #[.bool true, .int .u64 v, .int .u8 l, .int .u8 b] := (Blk.new w _ _).alloc _
          have hB1 : Blk ((w.alloc (.cells #[.bool true, .int .u64 v, .int .u8 l, .int .u8 b] 24)).alloc (.cells #[.bool false, .int .u64 0, .int .u8 0, .int .u8 0] 24)) (w.heap.size + 1) 24 #[.bool false, .int .u64 0, .int .u8 0, .int .u8 0] := by
            have := Blk.new (w.alloc (.cells #[.bool true, .int .u64 v, .int .u8 l, .int .u8 b] 24)) 24 #[.bool false, .int .u64 0, .int .u8 0, .int .u8 0]
            rwa [World.size_alloc] at this
          have tA := below_alloc2 w (.cells #[.bool true, .int .u64 v, .int .u8 l, .int .u8 b] 24) (.cells #[.bool false, .int .u64 0, .int .u8 0, .int .u8 0] 24)
          have zA : ((w.alloc (.cells #[.bool true, .int .u64 v, .int .u8 l, .int .u8 b] 24)).alloc (.cells #[.bool false, .int .u64 0, .int .u8 0, .int .u8 0] 24)).heap.size = w.heap.size + 2 := by simp
          have HB1 := Lib.hid hB1
          have HB0 := Lib.hid hB0
          have HtA := Lib.hid tA
          have HzA := Lib.hid zA
          clear hB0 hB1 tA zA
          generalize (w.alloc (.cells #[.bool true, .int .u64 v, .int .u8 l, .int .u8 b] 24)).alloc (.cells #[.bool false, .int .u64 0, .int .u8 0, .int .u8 0] 24) = W at *
          obtain ⟨⟨q0, q1, q2, q3⟩, g0, g1, g2, g3⟩ := HB0.out.quad
          obtain ⟨hol, hhol⟩ : ∃ hol, hol = holdsX l b D := ⟨_, rfl⟩
          have Hhol := Lib.hid hhol
          clear hhol
          go_upto_region 14 with fail
          clear HB f1
          go_cut [69] (fun s wx => s = .bool hol ∧ wx = W)
          case first =>
            have Hm : Hid (hol = true ↔ (l ≤ k ∧ m ≤ l + b)) := Lib.hid (by rw [Hhol.out, HHolds.out, ← HK.out, ← HC.out, show 64 - q = m by have := Hqm.out; omega])
            go_wp2_with fail
            all_goals
              go_meet
              refine ⟨?_, rfl⟩
              congr 1
              have := Hm.out
              have := Hs3.out
              have := Hqm.out
              cases hol <;> simp at * <;> omega
          case rest =>
            obtain ⟨rfl, rfl⟩ := hcut
            have bw : ∀ l0 : List UInt8, Bs (wc.alloc (.cells (l0.map bv).toArray 5)) (some ⟨wc.heap.size, 0, none⟩) l0 := fun l0 => Blk.bs (Blk.new wc 5 (l0.map bv).toArray)
            have zz : w.heap.size + 2 ≤ wc.heap.size := by have := HzA.out; omega
            cases hol
            · have b11 := bw [1, 1]
              obtain ⟨L, hL⟩ : ∃ L, L = leadX D := ⟨_, rfl⟩
              obtain ⟨X, hX⟩ : ∃ X, X = widX D := ⟨_, rfl⟩
              obtain ⟨N1, N2, N3, N4, -⟩ := narrow_facts D Hne.out hDlt
              rw [← hL] at N1 N3 N4
              rw [← hX] at N2 N3 N4
              have hLk : L = min k 31 := by rw [hL, HK.out]; rfl
              have hXm : L + X = m := by have := Hqm.out; have := HC.out; omega
              have HL := Lib.hid hL
              have HX := Lib.hid hX
              have HXm := Lib.hid hXm
              clear hL hX hXm bw
              go_upto_region 17 with fail
              go_cut [8] (fun s wx => s = .int .i64 L ∧ wx = wc)
              case first =>
                rcases Nat.lt_or_ge 31 k with h31 | h31
                · have hL31 : L = 31 := by omega
                  have h31' : (31 : Int) < k := by omega
                  clear hLk
                  subst hL31
                  go_wp2_with fail
                  all_goals (first | (go_meet; exact ⟨rfl, rfl⟩) | (exfalso; omega))
                · have hL31 : L = k := by omega
                  have h31' : ¬ (31 : Int) < k := by omega
                  clear hLk
                  subst hL31
                  go_wp2_with fail
                  all_goals (first | (go_meet; exact ⟨rfl, rfl⟩) | (exfalso; omega) | (go_meet; refine ⟨?_, rfl⟩; congr 1; omega))
              case rest =>
                obtain ⟨rfl, rfl⟩ := hcut
                have t3a : True := trivial
                have b11' : Bs (wc.alloc (.cells ([1, 1].map bv).toArray 5)) (some ⟨wc.heap.size, 0, none⟩) [1, 1] := b11
                obtain ⟨X1, hX1⟩ : ∃ X1 : Nat, X1 = X - 1 := ⟨_, rfl⟩
                obtain ⟨nn, hnn⟩ : ∃ nn : Nat, nn = D / 2 ^ q := ⟨_, rfl⟩
                have hnl : nn < 18446744073709551616 := by rw [hnn]; exact Nat.lt_of_le_of_lt (Nat.div_le_self _ _) hDlt'
                have j1 : (m : Int) - (L : Int) = (X : Int) := by have := HXm.out; omega
                have j2 : (X : Int) - 1 = (X1 : Int) := by omega
                have j3 : IntKind.u64.wrap (X1 : Int) = (X1 : Int) := by rw [IntKind.wrap_u64]; omega
                have j4 : IntKind.u64.wrap (L : Int) = (L : Int) := by rw [IntKind.wrap_u64]; omega
                have j5 : (64 : Int) - (m : Int) = (q : Int) := by have := Hqm.out; omega
                have j6 : IntKind.u64.wrap (q : Int) = (q : Int) := by rw [IntKind.wrap_u64]; omega
                have j7 : (D : Int) / 2 ^ q = (nn : Int) := by rw [nat_shr, hnn]
                have j8 : IntKind.u8.wrap (L : Int) = (L : Int) := by rw [IntKind.wrap_u8]; omega
                have j9 : IntKind.u8.wrap (X : Int) = (X : Int) := by rw [IntKind.wrap_u8]; omega
                have hX64 : X ≤ 64 := by omega
                have hX1l : X1 < 64 := by omega
                have HX1 := Lib.hid hX1
                have Hnn := Lib.hid hnn
                clear hX1 hnn b11 hLk t3a
                go_wp2_with (at_builtin; go_must (refine appAll _ rfl (.tmp 95) (.tmp 96) rfl (w.heap.size + 2) _ [] rfl (OwnB.nil _ _) (some ⟨wc.heap.size, 0, none⟩) 2 [1, 1] rfl b11' (by simp) (by simp; omega) ?_); intro A3 c3 w3 o3 t3; rw [List.nil_append] at o3; have o3' : OwnB w3 (w.heap.size + 2) (.slice A3 2 c3) (u8s [true, true]) := o3)
                have t3' : Below (w.heap.size + 2) wc w3 := (((Below.refl _ wc).alloc zz _).trans t3)
                have z3 : w.heap.size + 2 ≤ w3.heap.size := Nat.le_trans zz t3'.size
                clear o3 q0 q1 q2 q3 g0 g1 g2 g3
                refine (rput_any (w.heap.size + 2) (.slice A3 2 c3) [true, true] L 5 wc w3 t3' (by omega) (by omega) o3' (by simp) z3).mono ?_
                rintro e w4 ⟨A4, n4, c4, rfl, hn4, o4, t4, z4⟩
                have Hn4 := Lib.hid hn4
                clear hn4
                go_wp2_with fail
                refine (rput_any (w.heap.size + 2) (.slice A4 n4 c4) ([true, true] ++ valB L 5) X1 6 wc w4 t4 (by omega) (by omega) o4 (by simp [valB_length]) z4).mono ?_
                rintro e w5 ⟨A5, n5, c5, rfl, hn5, o5, t5, z5⟩
                have Hn5 := Lib.hid hn5
                clear hn5
                go_wp2_with fail
                refine (rput_any (w.heap.size + 2) (.slice A5 n5 c5) ([true, true] ++ valB L 5 ++ valB X1 6) nn X wc w5 t5 hnl hX64 o5 (by simp [valB_length]) z5).mono ?_
                rintro e w6 ⟨A6, n6, c6, rfl, hn6, o6, t6, z6⟩
                have Hn6 := Lib.hid hn6
                clear hn6
                have HC0 := Lib.hid (HB0.out.below t6 (by omega) : Blk w6 w.heap.size 24 #[.bool true, .int .u64 v, .int .u8 l, .int .u8 b])
                have HC1 := Lib.hid (HB1.out.below t6 (by omega) : Blk w6 (w.heap.size + 1) 24 #[.bool false, .int .u64 0, .int .u8 0, .int .u8 0])
                obtain ⟨⟨q0, q1, q2, q3⟩, g0, g1, g2, g3⟩ := HC0.out.quad
                go_wp2_with fail
                have HD0 := Lib.hid (by simpa using (HC0.out.set 2 (.int .u8 L)).set 3 (.int .u8 X) : Blk ((w6.setCell ⟨w.heap.size, 2, none⟩ (.int .u8 L)).setCell ⟨w.heap.size, 3, none⟩ (.int .u8 X)) w.heap.size 24 #[.bool true, .int .u64 v, .int .u8 L, .int .u8 X])
                have HD1 := Lib.hid ((HC1.out.far ⟨w.heap.size, 2, none⟩ (.int .u8 L) (by simp)).far ⟨w.heap.size, 3, none⟩ (.int .u8 X) (by simp) : Blk ((w6.setCell ⟨w.heap.size, 2, none⟩ (.int .u8 L)).setCell ⟨w.heap.size, 3, none⟩ (.int .u8 X)) (w.heap.size + 1) 24 #[.bool false, .int .u64 0, .int .u8 0, .int .u8 0])
                have o7 := ((o6.far (p := ⟨w.heap.size, 2, none⟩) (o6.ne (by simp)) (.int .u8 L)).far (p := ⟨w.heap.size, 3, none⟩) ((o6.far (p := ⟨w.heap.size, 2, none⟩) (o6.ne (by simp)) (.int .u8 L)).ne (by simp)) (.int .u8 X))
                have t7 := ((HtA.out.trans (t6.mono (by omega))).setCell (p := ⟨w.heap.size, 2, none⟩) (Nat.le_refl _) (.int .u8 L)).setCell (p := ⟨w.heap.size, 3, none⟩) (Nat.le_refl _) (.int .u8 X)
                have z7 : w.heap.size + 2 ≤ ((w6.setCell ⟨w.heap.size, 2, none⟩ (.int .u8 L)).setCell ⟨w.heap.size, 3, none⟩ (.int .u8 X)).heap.size := by simp [World.setCell]; exact z6
                clear q0 q1 q2 q3 g0 g1 g2 g3
                generalize (w6.setCell ⟨w.heap.size, 2, none⟩ (.int .u8 L)).setCell ⟨w.heap.size, 3, none⟩ (.int .u8 X) = W7 at *
                have qq : ∀ x, (plus W7 x).cell? ⟨w.heap.size, 0, none⟩ = some (.bool true) ∧ (plus W7 x).cell? ⟨w.heap.size, 1, none⟩ = some (.int .u64 v) ∧ (plus W7 x).cell? ⟨w.heap.size, 2, none⟩ = some (.int .u8 L) ∧ (plus W7 x).cell? ⟨w.heap.size, 3, none⟩ = some (.int .u8 X) := fun x =>
                  ((HD0.out.below (plus_below W7 x) HD0.out.lt : Blk (plus W7 x) w.heap.size 24 #[.bool true, .int .u64 v, .int .u8 L, .int .u8 X])).quad.1
                refine wp_region_fresh_tail 3 [] [] (fun _ _ _ => True) hmx (by kernel_rfl) (by kernel_rfl) ?_
                simp only [List.take_succ_cons, List.take_zero, List.drop_succ_cons, List.drop_zero]
                iterate 3 (refine walkF_one none W7 rfl (by kernel_rfl) ?_; go_big_quiet_step (fail); refine wpQuiet_nil ?_)
                refine walkF_end ?_
                intro w' h0 hE
                have o8 := o7.below h0
                have HB := Lib.hid (HD1.out.below h0 HD1.out.lt : Blk w' (w.heap.size + 1) 24 #[.bool false, .int .u64 0, .int .u8 0, .int .u8 0])
                obtain ⟨⟨r0, r1, r2, r3⟩, k0, k1, k2, k3⟩ := HB.out.quad
                clear hE qq o7
                go_wp2_with fail
                have hF := HB.out.set4 (.bool true) (.int .u64 v) (.int .u8 L) (.int .u8 X)
                obtain ⟨⟨u0, u1, u2, u3⟩, -⟩ := hF.quad
                refine bodyPost_ret (v := .tuple #[.slice A6 n6 c6, .agg #[.bool true, .int .u64 v, .int .u8 L, .int .u8 X]]) (by simp [results, Tryd.results24, go_sem, u0, u1, u2, u3]) rfl ⟨?_, below_set4 (t7.trans (Below.mono h0 (by omega))) (by omega) _ _ _ _⟩
                have he : encX ⟨true, p, l, b⟩ v = ([true, true] ++ valB L 5 ++ valB X1 6 ++ valB nn X, ⟨true, v, L, X⟩) := by
                  unfold encX
                  simp only
                  rw [if_neg (by decide), ← HD.out, if_neg Hne.out, if_neg (by rw [← Hhol.out]; decide), ← HL.out, ← HX.out, show 64 - L - X = q by rw [N4, HC.out], ← Hnn.out, ← HX1.out]
                  simp
                unfold WrOut
                rw [he]
                exact ⟨A6, n6, c6, rfl, Hn6.out, (o8.far4 (by omega) _ _ _ _).mono (by omega)⟩
            · have b10 := bw [1, 0]
              obtain ⟨s0, hs0⟩ : ∃ s0 : Nat, s0 = 64 - l - b := ⟨_, rfl⟩
              have f2 : (64 : Int) - (l : Int) - (b : Int) = (s0 : Int) := by omega
              obtain ⟨nn, hnn⟩ : ∃ nn : Nat, nn = D / 2 ^ s0 := ⟨_, rfl⟩
              have f3 : (D : Int) / 2 ^ s0 = (nn : Int) := by rw [nat_shr, hnn]
              have hnl : nn < 18446744073709551616 := by rw [hnn]; exact Nat.lt_of_le_of_lt (Nat.div_le_self _ _) hDlt'
              have Hs0 := Lib.hid hs0
              have Hnn := Lib.hid hnn
              clear bw hs0 hnn
              go_wp2_with (at_builtin; go_must (refine appAll _ rfl (.tmp 70) (.tmp 71) rfl (w.heap.size + 2) _ [] rfl (OwnB.nil _ _) (some ⟨wc.heap.size, 0, none⟩) 2 [1, 0] rfl b10 (by simp) (by simp; omega) ?_); intro A3 c3 w3 o3 t3; rw [List.nil_append] at o3; have o3' : OwnB w3 (w.heap.size + 2) (.slice A3 2 c3) (u8s [true, false]) := o3)
              have tB := (HtA.out.mono (Nat.le_refl _))
              have t3' : Below (w.heap.size + 2) wc w3 := (((Below.refl _ wc).alloc zz _).trans t3)
              have z3 : w.heap.size + 2 ≤ w3.heap.size := Nat.le_trans zz t3'.size
              have HB0' := Lib.hid (HB0.out.below t3' (by omega))
              have HB1' := Lib.hid (HB1.out.below t3' (by omega))
              clear q0 q1 q2 q3 g0 g1 g2 g3
              obtain ⟨⟨q0, q1, q2, q3⟩, g0, g1, g2, g3⟩ := HB0'.out.quad
              clear o3
              have j1 : IntKind.i64.wrap (64 - (l : Int)) = 64 - (l : Int) := by rw [IntKind.wrap_i64]; omega
              have j2 : IntKind.i64.wrap (64 - (l : Int) - (b : Int)) = (s0 : Int) := by rw [IntKind.wrap_i64]; have := Hs0.out; omega
              have j3 : IntKind.u64.wrap (s0 : Int) = (s0 : Int) := by rw [IntKind.wrap_u64]; have := Hs0.out; omega
              have j4 : min s0 64 = s0 := by have := Hs0.out; omega
              clear f2
              go_region_held3 (fun w' => w'.cell? ⟨w.heap.size, 0, none⟩ = some (.bool true) ∧ w'.cell? ⟨w.heap.size, 1, none⟩ = some (.int .u64 v) ∧ w'.cell? ⟨w.heap.size, 2, none⟩ = some (.int .u8 l) ∧ w'.cell? ⟨w.heap.size, 3, none⟩ = some (.int .u8 b)) (first | exact ⟨q0, q1, q2, q3⟩ | exact ⟨r0, r1, r2, r3⟩ | go_keep)
                ((go_at_call 36; refine (rput_any (w.heap.size + 2) (.slice A3 2 c3) [true, false] nn b wc w3.drew t3'.drew hnl (by omega) o3'.drew (by simp) z3).mono ?_; rintro e w4 ⟨A4, n4, c4, rfl, hn4, o4, t4, z4⟩; have Hn4 := Lib.hid hn4; clear hn4; have HC1 := Lib.hid (HB1.out.below t4 (by omega)); obtain ⟨⟨r0, r1, r2, r3⟩, k0, k1, k2, k3⟩ := (HB0.out.below t4 (by omega)).quad; obtain ⟨⟨m0, m1, m2, m3⟩, n0, n1, n2, n3⟩ := HC1.out.quad))
              have HC1 := Lib.hid (HB1.out.below t4 (by omega) : Blk w4 (w.heap.size + 1) 24 #[.bool false, .int .u64 0, .int .u8 0, .int .u8 0])
              go_wp2_with fail
              have hF := HC1.out.set4 (.bool true) (.int .u64 v) (.int .u8 l) (.int .u8 b)
              obtain ⟨⟨u0, u1, u2, u3⟩, -⟩ := hF.quad
              refine bodyPost_ret (v := .tuple #[.slice A4 n4 c4, .agg #[.bool true, .int .u64 v, .int .u8 l, .int .u8 b]]) (by simp [results, Tryd.results24, go_sem, u0, u1, u2, u3]) rfl ⟨?_, below_set4 (HtA.out.trans (t4.mono (by omega))) (by omega) _ _ _ _⟩
              have he : encX ⟨true, p, l, b⟩ v = ([true, false] ++ valB nn b, ⟨true, v, l, b⟩) := by
                unfold encX
                simp only
                rw [if_neg (by decide), ← HD.out, if_neg Hne.out, if_pos Hhol.out.symm, ← Hs0.out, ← Hnn.out]
                rfl
              unfold WrOut
              rw [he]
              exact ⟨A4, n4, c4, rfl, Hn4.out, (o4.far4 (by omega) _ _ _ _).mono (by omega)⟩

end Go.Proofs.YtfooggamdbdniaaDoor

/- Contracts of the document's own functions of layer 1: List. -/
namespace Go.Proofs.YtfooggamdbdniaaDoor
open Go.RowKit

set_option maxHeartbeats 400000 in
theorem refList_any (A : Option Addr) (c : Nat) (l : List UInt8) (n : Nat) (w : World) (hb : Bs w A l) (hn : n ≤ 8 * l.length) (hl : l.length ≤ 1099511627776) :
    Calls Tryd.prog 25 #[.agg #[.slice A l.length c, .int .i64 n]] w fun e w' => ∃ A' c', e = .returned (.slice A' n c') ∧ OwnB w' w.heap.size (.slice A' n c') (u8s (bitl l n)) ∧ Below w.heap.size w w' := by
  go_enter Tryd.func25, Tryd.ntmps25
  go_wp2
  go_loopw [3, 4] (fun v i wr => ∃ k : Nat, k ≤ n ∧ i = .int .i64 k ∧ OwnB wr (w.heap.size + 1) v (u8s (bitl l k)) ∧ Below (w.heap.size + 1) (w.alloc (.cells #[.slice A l.length c, .int .i64 n] 29)) wr)
    (fun _ i _ => n - (intOf i).toNat)
  case atStart => exact ⟨0, Nat.zero_le _, rfl, OwnB.nil _ _, Below.refl _ _⟩
  case round =>
    obtain ⟨k, hk, rfl, hown, hbel⟩ := hrel
    have hsz : w.heap.size + 1 ≤ wr.heap.size := by have := hbel.size; simpa using this
    have c0 : wr.cell? ⟨w.heap.size, 0, none⟩ = some (.slice A l.length c) := (hbel.cell (Nat.lt_succ_self _)).trans (box_cell _ _ _ _ _ rfl)
    have c1 : wr.cell? ⟨w.heap.size, 1, none⟩ = some (.int .i64 n) := (hbel.cell (Nat.lt_succ_self _)).trans (box_cell _ _ _ _ _ rfl)
    have hBs : Bs wr A l := (hb.below (below_alloc _ _)).below (by simpa using hbel)
    by_cases hlt : k < n
    · go_wp2_with (first
        | (go_at_call 30; refine (refBit_any A c l n k _ hBs (by omega) (by unfold maxLen; omega)).mono ?_; rintro e w1 ⟨rfl, hb1⟩)
        | (at_builtin; go_must (refine appB _ rfl (.tmp 11) (.tmp 15) rfl (w.heap.size + 1) _ _ rfl ((hown.below hb1).alloc _) w1.heap.size (b2u (bt l k)) rfl (box_cell _ _ _ _ _ rfl) (by rw [u8s_length, bitl_length]; omega) (by have := hb1.size; simp; omega) ?_); intro g2 cap2 w2 hown2 hbel2))
      go_roundw
      case rel => exact ⟨k + 1, by omega, by go_num, by rw [bitl_succ, u8s_snoc]; exact hown2, (hbel.trans (hb1.mono (by omega))).trans (((Below.refl _ _).alloc (by have := hb1.size; omega) _).trans hbel2)⟩
      case measure => simp [intOf]; omega
    · obtain rfl : k = n := by omega
      obtain ⟨A', c', hv, _⟩ := hown.isB
      rw [u8s_length, bitl_length] at hv
      subst hv
      go_wp2
      go_ret
      exact ⟨_, _, rfl, hown.mono (by omega), (below_alloc _ _).trans (hbel.mono (by omega))⟩

end Go.Proofs.YtfooggamdbdniaaDoor

/- The document's written and Put of layer 3. -/
namespace Go.Proofs.YtfooggamdbdniaaDoor
open Go.RowKit

theorem written_any (h : Bool) (p l b v : Nat) (w : World) (hv : v < 18446744073709551616) (hp : p < 18446744073709551616) (hs : soundX ⟨h, p, l, b⟩ = true) :
    Calls Tryd.prog 24 #[.agg #[.bool h, .int .u64 p, .int .u8 l, .int .u8 b], .int .u64 v] w fun e w' => WrOut ⟨h, p, l, b⟩ v w.heap.size e w' ∧ Below w.heap.size w w' := by
  cases h
  · exact written_first p l b v w hv
  · by_cases hne : v ^^^ p = 0
    · obtain rfl := xor_zero_iff.1 hne
      exact written_same l b v w hv
    · exact written_other p l b v w hv hp hs hne

/-- what Put answers: bytes, their bits, what is known then, an error -/
def putX (l : List UInt8) (n : Int) (s : XV) (v : Nat) : List UInt8 × Nat × XV × Nat :=
  if soundB l n = false then ([], 0, xv0, 11) else if soundX s = false then ([], 0, xv0, 30)
  else (pack (bitl l n.toNat ++ (encX s v).1), (bitl l n.toNat ++ (encX s v).1).length, (encX s v).2, 0)
def PutOut (P : List UInt8 × Nat × XV × Nat) (kind : IntKind) (base : Nat) (e : Ending) (w : World) : Prop :=
  ∃ A' n' c', n' = P.1.length ∧ e = .returned (.tuple #[.agg #[.slice A' n' c', .int .i64 (P.2.1 : Nat)], .agg #[.bool P.2.2.1.has, .int .u64 (P.2.2.1.prev : Nat), .int .u8 (P.2.2.1.lead : Nat), .int .u8 (P.2.2.1.width : Nat)], .int kind (P.2.2.2 : Nat)]) ∧ OwnB w base (.slice A' n' c') P.1

/-- four boxes that a call laid: two that hold what came, two for its results -/
structure Four (w W : World) (b0 : Array Value) (b1 : Array Value) (b2 : Array Value) (b3 : Array Value) (t0 t1 : TypeId) : Prop where
  h0 : Blk W w.heap.size t0 b0
  h1 : Blk W (w.heap.size + 1) t1 b1
  h2 : Blk W (w.heap.size + 2) t0 b2
  h3 : Blk W (w.heap.size + 3) t1 b3
  t : Below w.heap.size w W
  z : w.heap.size + 4 ≤ W.heap.size
theorem four_new (w : World) (b0 b1 b2 b3 : Array Value) (t0 t1 : TypeId) : Four w ((((w.alloc (.cells b0 t0)).alloc (.cells b1 t1)).alloc (.cells b2 t0)).alloc (.cells b3 t1)) b0 b1 b2 b3 t0 t1 := by
  have s1 : (w.alloc (.cells b0 t0)).heap.size = w.heap.size + 1 := by simp
  have s2 : ((w.alloc (.cells b0 t0)).alloc (.cells b1 t1)).heap.size = w.heap.size + 2 := by simp
  have s3 : (((w.alloc (.cells b0 t0)).alloc (.cells b1 t1)).alloc (.cells b2 t0)).heap.size = w.heap.size + 3 := by simp
  refine ⟨(((Blk.new w t0 b0).alloc _).alloc _).alloc _, ?_, ?_, ?_, ?_, by simp⟩
  · have := ((Blk.new (w.alloc (.cells b0 t0)) t1 b1).alloc (.cells b2 t0)).alloc (.cells b3 t1)
    rwa [s1] at this
  · have := (Blk.new ((w.alloc (.cells b0 t0)).alloc (.cells b1 t1)) t0 b2).alloc (.cells b3 t1)
    rwa [s2] at this
  · have := Blk.new (((w.alloc (.cells b0 t0)).alloc (.cells b1 t1)).alloc (.cells b2 t0)) t1 b3
    rwa [s3] at this
  · exact (((below_alloc w _).alloc (by simp) _).alloc (by simp; omega) _).alloc (by simp; omega) _
theorem Four.on {w W W' : World} {b0 b1 b2 b3 : Array Value} {t0 t1 : TypeId} (h : Four w W b0 b1 b2 b3 t0 t1) (hb : Below (w.heap.size + 4) W W') : Four w W' b0 b1 b2 b3 t0 t1 :=
  ⟨h.h0.below hb (by omega), h.h1.below hb (by omega), h.h2.below hb (by omega), h.h3.below hb (by omega), h.t.trans (hb.mono (by omega)), Nat.le_trans h.z hb.size⟩
theorem Four.go {w W W' : World} {b0 b1 b2 b3 : Array Value} {t0 t1 : TypeId} (h : Four w W b0 b1 b2 b3 t0 t1) (hb : Below W.heap.size W W') : Four w W' b0 b1 b2 b3 t0 t1 := h.on (hb.mono h.z)

/-- the two results, stored -/
theorem Four.fin {w W : World} {b0 b1 : Array Value} {x0 x1 y0 y1 y2 y3 : Value} {t0 t1 : TypeId} (h : Four w W b0 b1 #[x0, x1] #[y0, y1, y2, y3] t0 t1) (a b c d e f : Value) :
    Four w ((((((W.setCell ⟨w.heap.size + 2, 0, none⟩ a).setCell ⟨w.heap.size + 2, 1, none⟩ b).setCell ⟨w.heap.size + 3, 0, none⟩ c).setCell ⟨w.heap.size + 3, 1, none⟩ d).setCell ⟨w.heap.size + 3, 2, none⟩ e).setCell ⟨w.heap.size + 3, 3, none⟩ f) b0 b1 #[a, b] #[c, d, e, f] t0 t1 := by
  have n2 : ∀ {g : Nat} {cs : Array Value} {t : TypeId} {V : World}, Blk V g t cs → g ≠ w.heap.size + 2 → g ≠ w.heap.size + 3 → ∀ (i j : Nat) (u u' : Value), Blk (V.setCell ⟨w.heap.size + 2, i, none⟩ u) g t cs ∧ Blk (V.setCell ⟨w.heap.size + 3, j, none⟩ u') g t cs :=
    fun hb h2 h3 i j u u' => ⟨hb.far _ _ h2, hb.far _ _ h3⟩
  refine ⟨?_, ?_, ?_, ?_, ?_, ?_⟩
  · exact (((((h.h0.far _ _ (by simp)).far _ _ (by simp)).far _ _ (by simp)).far _ _ (by simp)).far _ _ (by simp)).far _ _ (by simp)
  · exact (((((h.h1.far _ _ (by simp)).far _ _ (by simp)).far _ _ (by simp)).far _ _ (by simp)).far _ _ (by simp)).far _ _ (by simp)
  · exact ((((h.h2.set2 a b).far _ _ (by simp)).far _ _ (by simp)).far _ _ (by simp)).far _ _ (by simp)
  · exact (((h.h3.far _ _ (by simp)).far _ _ (by simp)).set4 c d e f)
  · exact below_set4 ((h.t.setCell (p := ⟨w.heap.size + 2, 0, none⟩) (by simp) a).setCell (p := ⟨w.heap.size + 2, 1, none⟩) (by simp) b) (by omega) c d e f
  · simp [World.setCell]; exact h.z
theorem OwnB.fin {w W : World} {base : Nat} {V : Value} {l : List UInt8} (h : OwnB W base V l) (hb : w.heap.size + 4 ≤ base) (a b c d e f : Value) :
    OwnB ((((((W.setCell ⟨w.heap.size + 2, 0, none⟩ a).setCell ⟨w.heap.size + 2, 1, none⟩ b).setCell ⟨w.heap.size + 3, 0, none⟩ c).setCell ⟨w.heap.size + 3, 1, none⟩ d).setCell ⟨w.heap.size + 3, 2, none⟩ e).setCell ⟨w.heap.size + 3, 3, none⟩ f) w.heap.size V l := by
  have h1 := h.far (h.ne (show w.heap.size + 2 < base by omega)) (p := ⟨w.heap.size + 2, 0, none⟩) a
  have h2 := h1.far (h1.ne (show w.heap.size + 2 < base by omega)) (p := ⟨w.heap.size + 2, 1, none⟩) b
  exact (h2.far4 (show w.heap.size + 3 < base by omega) c d e f).mono (by omega)

set_option maxRecDepth 100000 in
set_option maxHeartbeats 2000000 in
theorem rxput_any (A : Option Addr) (c : Nat) (l : List UInt8) (n : Int) (h : Bool) (p ld b v : Nat) (w : World) (hb : Bs w A l) (hn : -9223372036854775808 ≤ n ∧ n ≤ 9223372036854775807) (hl : l.length ≤ 100000)
    (hv : v < 18446744073709551616) (hp : p < 18446744073709551616) (hld : ld < 256) (hbb : b < 256) :
    Calls Tryd.prog 13 #[.agg #[.slice A l.length c, .int .i64 n], .agg #[.bool h, .int .u64 p, .int .u8 ld, .int .u8 b], .int .u64 v] w fun e w' => PutOut (putX l n ⟨h, p, ld, b⟩ v) .i64 w.heap.size e w' ∧ Below w.heap.size w w' := by
  have F := four_new w #[.slice A l.length c, .int .i64 n] #[.bool h, .int .u64 p, .int .u8 ld, .int .u8 b] #[.slice none 0 0, .int .i64 0] #[.bool false, .int .u64 0, .int .u8 0, .int .u8 0] 29 24
  have hl' : l.length ≤ 1099511627776 := by omega
  go_enter Tryd.func13, Tryd.ntmps13
  go_wp2_with fail
  have hb0 := hb.below F.t
  have HF := Lib.hid F
  clear F
  generalize (((w.alloc (.cells #[.slice A l.length c, .int .i64 n] 29)).alloc (.cells #[.bool h, .int .u64 p, .int .u8 ld, .int .u8 b] 24)).alloc (.cells #[.slice none 0 0, .int .i64 0] 29)).alloc (.cells #[.bool false, .int .u64 0, .int .u8 0, .int .u8 0] 24) = W at *
  refine (refSound_any A c l n W hb0 hn hl').mono ?_
  rintro e w1 ⟨rfl, b1⟩
  have F1 := HF.out.go b1
  have HF1 := Lib.hid F1
  obtain ⟨⟨q0, q1, q2, q3⟩, g0, g1, g2, g3⟩ := F1.h3.quad
  obtain ⟨⟨y0, y1⟩, x0, x1⟩ := F1.h2.duo
  obtain ⟨⟨u0, u1, u2, u3⟩, -⟩ := F1.h1.quad
  obtain ⟨⟨v0, v1⟩, -⟩ := F1.h0.duo
  have a1 := hb0.below b1
  clear F1
  cases hs : soundB l n
  · have Hs := Lib.hid hs
    clear hs
    go_wp2_with fail
    have FF := HF1.out.fin (.slice none 0 0) (.int .i64 0) (.bool false) (.int .u64 0) (.int .u8 0) (.int .u8 0)
    obtain ⟨⟨s0, s1, s2, s3⟩, -⟩ := FF.h3.quad
    obtain ⟨⟨r0, r1⟩, -⟩ := FF.h2.duo
    refine bodyPost_ret (v := .tuple #[.agg #[.slice none 0 0, .int .i64 0], .agg #[.bool false, .int .u64 0, .int .u8 0, .int .u8 0], .int .i64 11]) (by simp [results, Tryd.results13, go_sem, r0, r1, s0, s1, s2, s3]) rfl ⟨?_, FF.t⟩
    unfold putX
    rw [if_pos Hs.out]
    exact ⟨none, 0, 0, rfl, rfl, OwnB.nil _ _⟩
  · have Hs := Lib.hid hs
    clear hs
    go_wp2_with fail
    refine (rxsound_any h p ld b _ hld hbb).mono ?_
    rintro e w2 ⟨rfl, b2⟩
    have HF2 := Lib.hid (HF1.out.go b2)
    clear q0 q1 q2 q3 g0 g1 g2 g3 y0 y1 x0 x1 u0 u1 u2 u3 v0 v1
    obtain ⟨⟨q0, q1, q2, q3⟩, g0, g1, g2, g3⟩ := HF2.out.h3.quad
    obtain ⟨⟨y0, y1⟩, x0, x1⟩ := HF2.out.h2.duo
    obtain ⟨⟨u0, u1, u2, u3⟩, -⟩ := HF2.out.h1.quad
    obtain ⟨⟨v0, v1⟩, -⟩ := HF2.out.h0.duo
    have a2 := a1.below b2
    cases hx : soundX ⟨h, p, ld, b⟩
    · have Hx := Lib.hid hx
      clear hx
      go_wp2_with fail
      have FF := HF2.out.fin (.slice none 0 0) (.int .i64 0) (.bool false) (.int .u64 0) (.int .u8 0) (.int .u8 0)
      obtain ⟨⟨s0, s1, s2, s3⟩, -⟩ := FF.h3.quad
      obtain ⟨⟨r0, r1⟩, -⟩ := FF.h2.duo
      refine bodyPost_ret (v := .tuple #[.agg #[.slice none 0 0, .int .i64 0], .agg #[.bool false, .int .u64 0, .int .u8 0, .int .u8 0], .int .i64 30]) (by simp [results, Tryd.results13, go_sem, r0, r1, s0, s1, s2, s3]) rfl ⟨?_, FF.t⟩
      unfold putX
      rw [if_neg (by rw [Hs.out]; decide), if_pos Hx.out]
      exact ⟨none, 0, 0, rfl, rfl, OwnB.nil _ _⟩
    · obtain ⟨m, hm, hm8, -⟩ := sound_nat Hs.out
      obtain ⟨S, hS⟩ : ∃ S : XV, S = ⟨h, p, ld, b⟩ := ⟨_, rfl⟩
      have Hx := Lib.hid hx
      clear hx
      subst hm
      go_wp2_with fail
      refine (written_any h p ld b v _ hv hp Hx.out).mono ?_
      rintro e w3 ⟨HW, b3⟩
      obtain ⟨A3, n3, c3, rfl, hn3, o3⟩ := HW
      have hlen := enc_len (s := ⟨h, p, ld, b⟩) (v := v) Hx.out hp hv
      obtain ⟨M, th, tp, tl, tb, hMT⟩ : ∃ M th tp tl tb, encX ⟨h, p, ld, b⟩ v = (M, ⟨th, tp, tl, tb⟩) := ⟨_, _, _, _, _, rfl⟩
      simp only [hMT] at hn3 o3 hlen ⊢
      have HMT := Lib.hid hMT
      have HF3 := Lib.hid (HF2.out.go b3)
      clear q0 q1 q2 q3 g0 g1 g2 g3 y0 y1 x0 x1 u0 u1 u2 u3 v0 v1 hMT hS
      obtain ⟨⟨q0, q1, q2, q3⟩, g0, g1, g2, g3⟩ := HF3.out.h3.quad
      obtain ⟨⟨y0, y1⟩, x0, x1⟩ := HF3.out.h2.duo
      obtain ⟨⟨v0, v1⟩, -⟩ := HF3.out.h0.duo
      have a3 := a2.below b3
      have hmm : m ≤ 8 * l.length := by omega
      have Hn3 := Lib.hid hn3
      have HBX := Lib.hid (Blk.new w3 24 #[.bool th, .int .u64 tp, .int .u8 tl, .int .u8 tb])
      have HA3 := Lib.hid (a3.below (below_alloc w3 (.cells #[.bool th, .int .u64 tp, .int .u8 tl, .int .u8 tb] 24)))
      obtain ⟨BS, hBS⟩ : ∃ BS, BS = bitl l m ++ M := ⟨_, rfl⟩
      have HBS := Lib.hid hBS
      have HN : Hid ((u8s (bitl l m)).length + (u8s M).length = BS.length) := Lib.hid (by rw [hBS, u8s_length, u8s_length, List.length_append])
      have HU : Hid (u8s (bitl l m) ++ u8s M = u8s BS) := Lib.hid (by rw [hBS, u8s_append])
      have hBSl : BS.length ≤ 1000000 := by rw [hBS, List.length_append, bitl_length]; omega
      have HMl : Hid (M.length ≤ 77) := Lib.hid hlen.2
      clear hn3 hBS hlen
      have kA := keepA
      have kF := keepF
      go_wp2_with (first
        | (go_at_call 25; refine (refList_any A c l m _ HA3.out hmm hl').mono ?_; rintro e w4 ⟨A4, c4, rfl, o4, b4⟩; have t4 := b4.mono (Nat.le_refl _))
        | (at_builtin; refine appAll _ rfl (.tmp 34) (.tmp 35) rfl (w3.heap.size + 1) _ (u8s (bitl l m)) rfl (o4.mono (by simp)) A3 c3 (u8s M) (congrArg (fun k => Value.slice A3 k c3) (Hn3.out.trans (u8s_length M).symm)) ((o3.below (below_alloc w3 _)).below b4).bs (by rw [u8s_length, u8s_length, bitl_length]; have := HMl.out; omega) (by have := b4.size; simp at this; omega) ?_; intro A5 c5 w5 o5 b5; rw [HU.out, HN.out] at o5; rw [HN.out]))
      have b35 : Below (w3.heap.size + 1) (w3.alloc (.cells #[.bool th, .int .u64 tp, .int .u8 tl, .int .u8 tb] 24)) w5 := (b4.mono (by simp)).trans b5
      have HF5 := Lib.hid (HF3.out.on (((below_alloc w3 (.cells #[.bool th, .int .u64 tp, .int .u8 tl, .int .u8 tb] 24)).mono HF3.out.z).trans (b35.mono (by have := HF3.out.z; omega))))
      have HBX5 := Lib.hid (HBX.out.below b35 (by omega) : Blk w5 w3.heap.size 24 #[.bool th, .int .u64 tp, .int .u8 tl, .int .u8 tb])
      clear kA kF q0 q1 q2 q3 g0 g1 g2 g3 y0 y1 x0 x1 v0 v1
      obtain ⟨⟨q0, q1, q2, q3⟩, -⟩ := HBX5.out.quad
      have HOf := Lib.hid (refOf_any A5 c5 BS w5.drew o5.bs (by omega))
      have lt5 : w3.heap.size < w5.heap.size := HBX5.out.lt
      have keepBX : ∀ W, Below w5.heap.size w5 W → Blk W w3.heap.size 24 #[.bool th, .int .u64 tp, .int .u8 tl, .int .u8 tb] := fun W hW => HBX5.out.below hW lt5
      have HkB := Lib.hid keepBX
      clear keepBX
      have ne1 : ¬ w3.heap.size = w.heap.size + 2 := by have := HF3.out.z; omega
      have ne2 : ¬ w3.heap.size = w.heap.size + 3 := by have := HF3.out.z; omega
      have ne3 : ¬ w.heap.size + 2 = w3.heap.size := by omega
      have ne4 : ¬ w.heap.size + 3 = w3.heap.size := by omega
      have dq : w5.drew.cell? ⟨w3.heap.size, 0, none⟩ = some (.bool th) ∧ w5.drew.cell? ⟨w3.heap.size, 1, none⟩ = some (.int .u64 tp) ∧ w5.drew.cell? ⟨w3.heap.size, 2, none⟩ = some (.int .u8 tl) ∧ w5.drew.cell? ⟨w3.heap.size, 3, none⟩ = some (.int .u8 tb) := ⟨q0, q1, q2, q3⟩
      go_region_held3 (fun w' => w'.cell? ⟨w3.heap.size, 0, none⟩ = some (.bool th) ∧ w'.cell? ⟨w3.heap.size, 1, none⟩ = some (.int .u64 tp) ∧ w'.cell? ⟨w3.heap.size, 2, none⟩ = some (.int .u8 tl) ∧ w'.cell? ⟨w3.heap.size, 3, none⟩ = some (.int .u8 tb)) (first | with_reducible exact dq | with_reducible exact ⟨r0, r1, r2, r3⟩ | (simp [World.cell?_setCell_far, ne3, ne4, r0, r1, r2, r3]))
        ((go_at_call 26; refine HOf.out.mono ?_; rintro e w6 ⟨A6, c6, rfl, o6, b6'⟩; have b6 : Below w5.heap.size w5 w6 := ⟨b6'.os, b6'.tape, b6'.output, b6'.size, b6'.block⟩; have HF6 := Lib.hid (HF5.out.go (W' := w6) b6); obtain ⟨⟨r0, r1, r2, r3⟩, k0, k1, k2, k3⟩ := (HkB.out w6 b6).quad; obtain ⟨⟨m0, m1, m2, m3⟩, n0, n1, n2, n3⟩ := HF6.out.h3.quad; obtain ⟨⟨y0, y1⟩, x0, x1⟩ := HF6.out.h2.duo))
      go_wp2_with fail
      have FF := HF6.out.fin (.slice A6 (pack BS).length c6) (.int .i64 BS.length) (.bool th) (.int .u64 tp) (.int .u8 tl) (.int .u8 tb)
      obtain ⟨⟨s0, s1, s2, s3⟩, -⟩ := FF.h3.quad
      obtain ⟨⟨z0, z1⟩, -⟩ := FF.h2.duo
      refine bodyPost_ret (v := .tuple #[.agg #[.slice A6 (pack BS).length c6, .int .i64 BS.length], .agg #[.bool th, .int .u64 tp, .int .u8 tl, .int .u8 tb], .int .i64 0]) (by simp [results, Tryd.results13, go_sem, z0, z1, s0, s1, s2, s3]) rfl ⟨?_, FF.t⟩
      have he : putX l m ⟨h, p, ld, b⟩ v = (pack BS, BS.length, ⟨th, tp, tl, tb⟩, 0) := by
        unfold putX
        rw [if_neg (by rw [Hs.out]; decide), if_neg (by rw [Hx.out]; decide), HMT.out, Int.toNat_natCast, ← HBS.out]
      rw [he]
      exact ⟨A6, _, c6, rfl, rfl, OwnB.fin o6 HF5.out.z _ _ _ _ _ _⟩

end Go.Proofs.YtfooggamdbdniaaDoor

/- Contracts of package bit: lay. -/
namespace Go.Proofs.YtfooggamdbdniaaDoor
open Go.RowKit

theorem only_set {w0 w : World} {g : Nat} (h : w0.grownBy w (some g)) (j : Nat) (u : Value) : w0.grownBy (w.setCell ⟨g, j, none⟩ u) (some g) :=
  ⟨h.os, h.tape, h.output, by have := h.size; simpa [World.setCell] using this, fun k hk hne => (Below.heap_setCell w ⟨g, j, none⟩ u k (fun e => hne (by rw [e]))).trans (h.block k hk hne)⟩
theorem only_drew {w0 w : World} {g : Nat} (h : w0.grownBy w (some g)) : w0.grownBy w.drew (some g) := ⟨h.os, h.tape, h.output, h.size, h.block⟩
theorem only_cell {w0 w : World} {g : Nat} (h : w0.grownBy w (some g)) {p i : Nat} {v : Value} (hc : w0.cell? ⟨p, i, none⟩ = some v) (hp : p ≠ g) : w.cell? ⟨p, i, none⟩ = some v :=
  h.cell hc (fun e => hp (by injection e))

theorem or_lay (b c : UInt8) (s : Nat) : Value.int .u8 (bits .or .u8 (b.toNat : Int) ((c.toNat : Int) / 2 ^ s)) = bv (UInt8.ofNat (b.toNat ||| c.toNat / 2 ^ s)) := by
  have h : c.toNat / 2 ^ s < 256 := Nat.lt_of_le_of_lt (Nat.div_le_self _ _) c.toNat_lt
  rw [nat_shr, or_u8 _ _ b.toNat_lt h, bv, UInt8.toNat_ofNat_of_lt' (Nat.or_lt_two_pow (n := 8) b.toNat_lt h)]
theorem low_val (c : UInt8) (s : Nat) : ((c.toNat : Int) * 2 ^ (8 - s) % 256) = (lowOf c s : Int) := by
  unfold lowOf; rw [Int.natCast_emod, Int.natCast_mul, Int.natCast_pow]; rfl
theorem or_low (b c : UInt8) (s : Nat) : Value.int .u8 (bits .or .u8 (b.toNat : Int) ((c.toNat : Int) * 2 ^ (8 - s) % 256)) = bv (UInt8.ofNat (b.toNat ||| lowOf c s)) := by
  rw [low_val, or_u8 _ _ b.toNat_lt (lowOf_lt c s), bv, UInt8.toNat_ofNat_of_lt' (Nat.or_lt_two_pow (n := 8) b.toNat_lt (lowOf_lt c s))]

set_option maxHeartbeats 2000000 in
theorem lay_any (base g cap N : Nat) (L x : List UInt8) (a n : Nat) (B : Option Addr) (cx : Nat) (w : World) (ho : OwnB w base (.slice (some ⟨g, 0, none⟩) N cap) L) (hx : Bs w B x) (hsep : 0 < x.length → ∀ p o, B = some ⟨p, o, none⟩ → p ≠ g)
    (hz : ∀ i, n ≤ i → bt x i = false) (hnx : x.length = nb n) (hroom : a + n ≤ 8 * N) (hN : N ≤ 2199023255552) :
    Calls Tryd.prog 35 #[.slice (some ⟨g, 0, none⟩) N cap, .int .i64 a, .slice B x.length cx] w fun e w' => e = .returned (.tuple #[]) ∧
      ∃ L', OwnB w' base (.slice (some ⟨g, 0, none⟩) N cap) L' ∧ Hid (LayAt L x a x.length L') ∧ w.grownBy w' (some g) := by
  have hLN : L.length = N := by have := ho.len (g := g); omega
  have hidx : ∀ k, k < x.length → a / 8 + k < N := fun k hk => by rw [hnx] at hk; unfold nb at hk; omega
  have hxl : x.length ≤ N + 1 := by rw [hnx]; unfold nb; omega
  have HZ := Lib.hid hz
  have HI := Lib.hid hidx
  have HL := Lib.hid hLN
  clear hz hidx hnx hLN
  go_enter Tryd.func35, Tryd.ntmps35
  go_wp2
  go_loopw [17] (fun q wr => ∃ (k : Nat) (bb : List UInt8), k ≤ x.length ∧ q = .int .i64 k ∧ OwnB wr base (.slice (some ⟨g, 0, none⟩) N cap) bb ∧ Hid (LayAt L x a k bb) ∧ w.grownBy wr (some g))
    (fun q _ => x.length - (intOf q).toNat)
  case atStart => exact ⟨0, L, Nat.zero_le _, rfl, ho, LayAt.zero L x a, World.grownBy.refl _ _⟩
  case round =>
    obtain ⟨k, bb, hk, rfl, hown, HC, hg⟩ := hrel
    have hbl : N ≤ bb.length := by have h1 := HC.out.1; have h2 := HL.out; omega
    by_cases hlt : k < x.length
    · have hki := HI.out k hlt
      obtain ⟨p, o, rfl, hpl, hc⟩ := hx.at_ (show 0 < x.length by omega)
      have hpg := hsep (by omega) p o rfl
      have hcx := only_cell hg (hc k hlt) hpg
      have hx1 := hown.cell (a / 8 + k) (by omega)
      have hf1 := hown.frozen (a / 8 + k)
      have hkI : (a : Int) / 8 + k < N := by omega
      have hlo := low_val x[k] (a % 8)
      clear hc
      by_cases h0 : lowOf x[k] (a % 8) = 0
      · have hz0 : ((x[k].toNat : Int) * 2 ^ (8 - a % 8) % 256 != 0) = false := by rw [hlo, h0]; rfl
        have H0 := Lib.hid h0
        clear h0 hlo
        go_wp2
        go_region
        go_wp2
        go_roundw
        case measure => simp [intOf]; omega
        case rel =>
          rw [or_lay]
          exact ⟨k + 1, _, by omega, by go_num, (hown.set _ _).drew, HC.out.step1 (List.getElem?_eq_getElem hlt) (by omega) H0.out, only_drew (only_set hg _ _)⟩
      · have hz0 : ((x[k].toNat : Int) * 2 ^ (8 - a % 8) % 256 != 0) = true := by rw [hlo, bne_iff_ne]; omega
        have hn2 := lay_room (List.getElem?_eq_getElem hlt) HZ.out hroom h0
        have hnI : (a : Int) / 8 + k + 1 < N := by omega
        have hx2 := hown.cell (a / 8 + k + 1) (by omega)
        have hf2 := hown.frozen (a / 8 + k + 1)
        have fx2 := fun (W : World) (u : Value) => World.cell?_setCell_other W ⟨g, a / 8 + k, none⟩ ⟨g, a / 8 + k + 1, none⟩ u (by intro e; injection e with _ e; omega)
        clear h0 hlo
        go_wp2
        go_region
        go_wp2
        go_roundw
        case measure => simp [intOf]; omega
        case rel =>
          rw [or_lay, or_low]
          exact ⟨k + 1, _, by omega, by go_num, ((hown.set _ _).drew.set _ _), HC.out.step2 (List.getElem?_eq_getElem hlt) (by omega) (by omega), only_set (only_drew (only_set hg _ _)) _ _⟩
    · obtain rfl : k = x.length := by omega
      go_wp2
      go_end0
      exact ⟨rfl, bb, hown, HC, hg⟩

end Go.Proofs.YtfooggamdbdniaaDoor

/- Contracts of package bit: Join. -/
namespace Go.Proofs.YtfooggamdbdniaaDoor
open Go.RowKit

/-- the cells from V on hold structs of bits -/
def BsL (w : World) (V : Option Addr) (E : List (List UInt8 × Int)) : Prop :=
  ∀ i e, E[i]? = some e → ∃ p o A c, V = some ⟨p, o, none⟩ ∧ w.cell? ⟨p, o + i * 2, none⟩ = some (.slice A e.1.length c) ∧ w.cell? ⟨p, o + i * 2 + 1, none⟩ = some (.int .i64 e.2) ∧ Bs w A e.1 ∧
    (-9223372036854775808 ≤ e.2 ∧ e.2 ≤ 9223372036854775807)

theorem BsL.below {w w' : World} {V : Option Addr} {E : List (List UInt8 × Int)} (h : BsL w V E) (hb : Below w.heap.size w w') : BsL w' V E := fun i e hi => by
  obtain ⟨p, o, A, c, hV, h1, h2, h3, h4⟩ := h i e hi
  exact ⟨p, o, A, c, hV, (hb.cell (cell_lt h1)).trans h1, (hb.cell (cell_lt h2)).trans h2, h3.below hb, h4⟩

theorem only_new {w0 w w' : World} {row : Option Nat} (h : w0.grownBy w row) (k : Below w.heap.size w w') : w0.grownBy w' row :=
  ⟨k.os.trans h.os, k.tape.trans h.tape, k.output.trans h.output, Nat.le_trans h.size k.size, fun i hi hne => (k.block i (Nat.lt_of_lt_of_le hi h.size)).trans (h.block i hi hne)⟩

theorem grown_cell3 {w w' : World} {row : Option Nat} (h : w.grownBy w' row) {p i : Nat} {v : Value} (hc : w.cell? ⟨p, i, none⟩ = some v) (hp : some p ≠ row) : w'.cell? ⟨p, i, none⟩ = some v :=
  h.cell hc hp
/-- bytes that lie in older blocks -/
theorem Bs.old {w0 w w' : World} {A : Option Addr} {l : List UInt8} {g : Nat} (h0 : Bs w0 A l) (hb : Below w0.heap.size w0 w) (hgr : w.grownBy w' (some g)) (hg : w0.heap.size ≤ g) : Bs w' A l := fun i b hi => by
  obtain ⟨p, o, hA, hc⟩ := h0 i b hi
  have hp := cell_lt hc
  exact ⟨p, o, hA, grown_cell3 hgr ((hb.cell (cell_lt hc)).trans hc) (fun e => by injection e with e; simp only at hp; omega)⟩
theorem Bs.lt {w : World} {A : Option Addr} {l : List UInt8} (h : Bs w A l) (hl : 0 < l.length) {p : Nat} {o : Nat} (hA : A = some ⟨p, o, none⟩) : p < w.heap.size := by
  obtain ⟨p', o', hA', hp, _⟩ := h.at_ hl
  rw [hA] at hA'
  injection hA' with e
  injection e with e _ _
  omega

set_option maxHeartbeats 2000000 in
theorem join_ok (V : Option Addr) (c : Nat) (E : List (List UInt8 × Int)) (w : World) (hE : BsL w V E) (hs : soundE E = true) (hlen : E.length ≤ 1000) (hl : ∀ e ∈ E, e.1.length ≤ 1073741824) :
    Calls Tryd.prog 22 #[.slice V E.length c] w fun e w' =>
      ∃ A' c', e = .returned (.tuple #[.agg #[.slice A' (pack (catE E)).length c', .int .i64 (catE E).length], .int .u16 0]) ∧ OwnB w' w.heap.size (.slice A' (pack (catE E)).length c') (pack (catE E)) ∧ Below w.heap.size w w' := by
  have hcat := catE_len E 1073741824 hs hl
  have hcatB : (catE E).length ≤ 8589934592000 := by omega
  have htake := fun k h => catE_take_len E k h
  obtain ⟨T, hT⟩ : ∃ T, T = (catE E).length := ⟨_, rfl⟩
  have HS := Lib.hid hs
  have HT := Lib.hid hT
  have HK := Lib.hid htake
  have HL := Lib.hid hl
  rw [← hT] at hcatB
  clear hs hT htake hl hcat
  go_enter Tryd.func22, Tryd.ntmps22
  go_wp2
  go_loopw [4, 13] (fun q i wr => ∃ k : Nat, k ≤ E.length ∧ i = .int .i64 k ∧ q = .int .i64 (catE (E.take k)).length ∧ Below (w.heap.size + 1) (w.alloc (.cells #[.slice none 0 0, .int .i64 0] 29)) wr)
    (fun _ i _ => E.length - (intOf i).toNat)
  case atStart => exact ⟨0, Nat.zero_le _, rfl, rfl, Below.refl _ _⟩
  case round =>
    obtain ⟨k, hk, rfl, rfl, hbel⟩ := hrel
    by_cases hlt : k < E.length
    · obtain ⟨p, o, A, c1, rfl, h1, h2, h3, h4⟩ := hE k E[k] (List.getElem?_eq_getElem hlt)
      have bw : Below w.heap.size w wr := (below_alloc _ _).trans (hbel.mono (by omega))
      have g1 := (bw.cell (cell_lt h1)).trans h1
      have g2 := (bw.cell (cell_lt h2)).trans h2
      have hB := h3.below bw
      have hsk := soundE_get HS.out k hlt
      have hll := HL.out _ (List.getElem_mem hlt)
      have hkk := HK.out k hlt
      rw [← HT.out] at hkk
      have hstep := catE_snoc E k hlt
      obtain ⟨n, hn⟩ : ∃ n, n = E[k] := ⟨_, rfl⟩
      rw [← hn] at g1 g2 hB hsk hll hkk h4 hstep
      clear h1 h2 h3 hn
      obtain ⟨n1, n2⟩ := n
      obtain ⟨m, rfl, hm8, -⟩ := sound_nat hsk
      simp only [Int.toNat_natCast] at g1 g2 hB hll hkk hstep
      obtain ⟨M, hM⟩ : ∃ M, M = (catE (E.take k)).length := ⟨_, rfl⟩
      have hM2 : (catE (E.take (k + 1))).length = M + m := by rw [hstep, List.length_append, bitl_length, hM]
      rw [← hM] at hkk ⊢
      have HM := Lib.hid hM
      have HM2 := Lib.hid hM2
      have HSk := Lib.hid hsk
      clear hM hM2 hstep hsk
      go_wp2_with fail
      refine Calls.mono (sound_any A c1 n1 m _ (hB.below (below_alloc _ _)) h4 (by unfold maxLen; omega)) ?_
      rw [HSk.out]
      rintro e w2 ⟨rfl, hb2⟩
      have x2 := boxN hb2
      have sw := hbel.size
      simp only [World.size_alloc] at sw
      go_wp2
      go_roundw
      case measure => simp [intOf]; omega
      case rel => exact ⟨k + 1, by omega, by go_num, by rw [HM2.out]; go_num, (hbel.alloc sw _).trans (hb2.mono (by simp; omega))⟩
    · obtain rfl : k = E.length := by omega
      rw [List.take_length, ← HT.out]
      clear hlt hk
      have sw := hbel.size
      simp only [World.size_alloc] at sw
      have bw : Below w.heap.size w wr := (below_alloc _ _).trans (hbel.mono (by omega))
      obtain ⟨N, hN⟩ : ∃ N, N = nb T := ⟨_, rfl⟩
      have hN8 : T ≤ 8 * N ∧ 8 * N ≤ T + 7 := by rw [hN]; unfold nb; omega
      have HN := Lib.hid hN
      clear hN
      go_wp2_with fail
      refine Calls.mono (bytesOf_any T _ (by omega)) ?_
      rw [← HN.out]
      rintro e w2 ⟨rfl, rfl⟩
      go_wp2_with (at_make; go_must (refine mkB _ rfl (.tmp 27) (.tmp 27) rfl (w.heap.size + 1) N rfl rfl (by omega) sw ?_); intro w3 hown3 hb3)
      have s3 := hown3.lt
      have b3 : Below (w.heap.size + 1) (w.alloc (.cells #[.slice none 0 0, .int .i64 0] 29)) w3 := hbel.trans (hb3.mono sw)
      have w13 : Below w.heap.size w w3 := bw.trans (hb3.mono (by omega))
      obtain ⟨g, hg⟩ : ∃ g, g = wr.heap.size := ⟨_, rfl⟩
      rw [← hg] at hown3 s3 ⊢
      have Hg := Lib.hid hg
      have hgw : w.heap.size < g := by omega
      clear hbel hb3 bw sw hg
      go_loopw [8, 31] (fun q i wr => ∃ (k : Nat) (bb : List UInt8), k ≤ E.length ∧ i = .int .i64 k ∧ q = .int .i64 (catE (E.take k)).length ∧ OwnB wr (w.heap.size + 1) (.slice (some ⟨g, 0, none⟩) N N) bb ∧ Hid (Begins bb (catE (E.take k))) ∧ w3.grownBy wr (some g))
        (fun _ i _ => E.length - (intOf i).toNat)
      case atStart => exact ⟨0, _, Nat.zero_le _, rfl, rfl, hown3, Begins.zero N, World.grownBy.refl _ _⟩
      case round =>
        obtain ⟨k, bb, hk, rfl, rfl, hown, HB, hgr⟩ := hrel
        by_cases hlt : k < E.length
        · obtain ⟨p, o, A, c1, rfl, h1, h2, h3, h4⟩ := hE k E[k] (List.getElem?_eq_getElem hlt)
          have hpw := cell_lt h1
          have g1 := grown_cell3 hgr ((w13.cell (cell_lt h1)).trans h1) (fun e => by injection e with e; simp only at hpw; omega)
          have g2 := grown_cell3 hgr ((w13.cell (cell_lt h2)).trans h2) (fun e => by injection e with e; simp only at hpw; omega)
          have hB := h3.old w13 hgr (by omega)
          have hsk := soundE_get HS.out k hlt
          have hll := HL.out _ (List.getElem_mem hlt)
          have hkk := HK.out k hlt
          rw [← HT.out] at hkk
          have hstep := catE_snoc E k hlt
          obtain ⟨n, hn⟩ : ∃ n, n = E[k] := ⟨_, rfl⟩
          rw [← hn] at g1 g2 hB hsk hll hkk h4 hstep h3
          clear h1 h2 hn
          obtain ⟨n1, n2⟩ := n
          obtain ⟨m, rfl, hm8, hnb⟩ := sound_nat hsk
          simp only [Int.toNat_natCast] at g1 g2 hB hll hkk hstep h3
          obtain ⟨M, hM⟩ : ∃ M, M = (catE (E.take k)).length := ⟨_, rfl⟩
          have hM2 : (catE (E.take (k + 1))).length = M + m := by rw [hstep, List.length_append, bitl_length, hM]
          rw [← hM] at hkk ⊢
          have HM := Lib.hid hM
          have HM2 := Lib.hid hM2
          have HSk := Lib.hid hsk
          have HST := Lib.hid hstep
          have hz := ((soundB_iff n1 m).1 hsk).2.2
          have HZ := Lib.hid hz
          have HNB := Lib.hid hnb
          have hgl := hown.lt
          have hxg : wr.heap.size ≠ g := by omega
          clear hM hM2 hstep hsk hz hnb
          go_wp2_with fail
          refine Calls.mono (lay_any (w.heap.size + 1) g N N bb n1 M m A c1 _ hown.up hB.up (fun h0 p' o' hA => by have := h3.lt h0 hA; omega) (by simpa using HZ.out) HNB.out (by omega) (by omega)) ?_
          rintro e w5 ⟨rfl, L5, hown5, HL5, hg5⟩
          have y5 := grown_cell3 hg5 (box_cell wr #[.slice A n1.length c1, .int .i64 m] 29 1 _ rfl) (fun e => hxg (by injection e))
          have hg2 : w3.grownBy w5 (some g) := World.grownBy.andThen (only_new hgr (below_alloc _ _)) hg5 (fun j h => .inr h)
          go_wp2
          go_roundw
          case measure => simp [intOf]; omega
          case rel => exact ⟨k + 1, L5, by omega, by go_num, by rw [HM2.out]; go_num, hown5, by rw [HST.out]; exact HB.out.lay HSk.out (by have := HL5.out; rw [HM.out] at this; exact this), hg2⟩
        · obtain rfl : k = E.length := by omega
          have HB2 := HB.out
          rw [List.take_length] at HB2 ⊢
          rw [← HT.out]
          have hbl : bb.length = N := by have := hown.len (g := 0); omega
          have HE : Hid (bb = pack (catE E)) := HB2.pack (by rw [hbl, HN.out, HT.out])
          have HNp : Hid (N = (pack (catE E)).length) := by rw [← HE.out]; exact hbl.symm
          clear HB2 hbl
          have hgl := hown.lt
          have bw2 : Below (w.heap.size + 1) w3 wr := (Below.refl _ _).grown hgr (by have := s3.2; omega) fun j hj => by injection hj with hj; omega
          have b4 := b3.trans bw2
          have r0 : wr.cell? ⟨w.heap.size, 0, none⟩ = some (.slice none 0 0) := (b4.cell (Nat.lt_succ_self _)).trans (box_cell _ _ _ _ _ rfl)
          have r1 : wr.cell? ⟨w.heap.size, 1, none⟩ = some (.int .i64 0) := (b4.cell (Nat.lt_succ_self _)).trans (box_cell _ _ _ _ _ rfl)
          have f0 : wr.frozen? ⟨w.heap.size, 0, none⟩ = false := (b4.frozen (p := ⟨w.heap.size, 0, none⟩) (Nat.lt_succ_self _)).trans (box_free _ _ _ _)
          have f1 : wr.frozen? ⟨w.heap.size, 1, none⟩ = false := (b4.frozen (p := ⟨w.heap.size, 1, none⟩) (Nat.lt_succ_self _)).trans (box_free _ _ _ _)
          go_wp2
          refine bodyPost_ret (v := .tuple #[.agg #[.slice (some ⟨g, 0, none⟩) N N, .int .i64 T], .int .u16 0]) (by simp [results, Tryd.results22, go_sem, r0, r1]) rfl ?_
          rw [← HE.out, ← HT.out, show bb.length = N by rw [HE.out, ← HNp.out]]
          have hne := hown.ne (show w.heap.size < w.heap.size + 1 by omega)
          exact ⟨_, _, rfl, ((hown.mono (by omega)).far hne _).far hne _, (((below_alloc _ _).trans (b4.mono (by omega))).setCell (Nat.le_refl _) _).setCell (Nat.le_refl _) _⟩

set_option maxHeartbeats 2000000 in
theorem join_err (V : Option Addr) (c : Nat) (E : List (List UInt8 × Int)) (w : World) (hE : BsL w V E) (hs : soundE E = false) (hlen : E.length ≤ 1000) (hl : ∀ e ∈ E, e.1.length ≤ 1073741824) :
    Calls Tryd.prog 22 #[.slice V E.length c] w fun e w' =>
      ∃ A' c', e = .returned (.tuple #[.agg #[.slice A' 0 c', .int .i64 0], .int .u16 11]) ∧ OwnB w' w.heap.size (.slice A' 0 c') [] ∧ Below w.heap.size w w' := by
  obtain ⟨K, hK, hbad, hgood⟩ := soundE_first hs
  have HG := Lib.hid hgood
  have HBad := Lib.hid hbad
  have HL := Lib.hid hl
  clear hs hgood hbad hl
  go_enter Tryd.func22, Tryd.ntmps22
  go_wp2
  go_loopw [4, 13] (fun q i wr => ∃ k T : Nat, k ≤ K ∧ i = .int .i64 k ∧ q = .int .i64 T ∧ T ≤ k * 8589934592 ∧ Below (w.heap.size + 1) (w.alloc (.cells #[.slice none 0 0, .int .i64 0] 29)) wr)
    (fun _ i _ => E.length - (intOf i).toNat)
  case atStart => exact ⟨0, 0, Nat.zero_le _, rfl, rfl, Nat.zero_le _, Below.refl _ _⟩
  case round =>
    obtain ⟨k, T, hk, rfl, rfl, hT, hbel⟩ := hrel
    have hlt : k < E.length := by omega
    obtain ⟨p, o, A, c1, rfl, h1, h2, h3, h4⟩ := hE k E[k] (List.getElem?_eq_getElem hlt)
    have bw : Below w.heap.size w wr := (below_alloc _ _).trans (hbel.mono (by omega))
    have g1 := (bw.cell (cell_lt h1)).trans h1
    have g2 := (bw.cell (cell_lt h2)).trans h2
    have hB := h3.below bw
    have hll := HL.out _ (List.getElem_mem hlt)
    have sw := hbel.size
    simp only [World.size_alloc] at sw
    by_cases hkK : k < K
    · have hsk := HG.out k hkK
      obtain ⟨n, hn⟩ : ∃ n, n = E[k] := ⟨_, rfl⟩
      rw [← hn] at g1 g2 hB hsk hll h4
      clear h1 h2 h3 hn
      obtain ⟨n1, n2⟩ := n
      obtain ⟨m, rfl, hm8, -⟩ := sound_nat hsk
      simp only at g1 g2 hB hll
      have HSk := Lib.hid hsk
      clear hsk
      go_wp2_with fail
      refine Calls.mono (sound_any A c1 n1 m _ (hB.below (below_alloc _ _)) h4 (by unfold maxLen; omega)) ?_
      rw [HSk.out]
      rintro e w2 ⟨rfl, hb2⟩
      have x2 := boxN hb2
      go_wp2
      go_roundw
      case measure => simp [intOf]; omega
      case rel => exact ⟨k + 1, T + m, by omega, by go_num, by go_num, by omega, (hbel.alloc sw _).trans (hb2.mono (by simp; omega))⟩
    · obtain rfl : k = K := by omega
      have hsk := HBad.out
      obtain ⟨n, hn⟩ : ∃ n, n = E[k] := ⟨_, rfl⟩
      rw [← hn] at g1 g2 hB hsk hll h4
      clear h1 h2 h3 hn HBad
      obtain ⟨n1, n2⟩ := n
      simp only at g1 g2 hB hll hsk h4
      have HSk := Lib.hid hsk
      clear hsk
      have r0 : wr.cell? ⟨w.heap.size, 0, none⟩ = some (.slice none 0 0) := (hbel.cell (Nat.lt_succ_self _)).trans (box_cell _ _ _ _ _ rfl)
      have r1 : wr.cell? ⟨w.heap.size, 1, none⟩ = some (.int .i64 0) := (hbel.cell (Nat.lt_succ_self _)).trans (box_cell _ _ _ _ _ rfl)
      have f0 : wr.frozen? ⟨w.heap.size, 0, none⟩ = false := (hbel.frozen (p := ⟨w.heap.size, 0, none⟩) (Nat.lt_succ_self _)).trans (box_free _ _ _ _)
      have f1 : wr.frozen? ⟨w.heap.size, 1, none⟩ = false := (hbel.frozen (p := ⟨w.heap.size, 1, none⟩) (Nat.lt_succ_self _)).trans (box_free _ _ _ _)
      go_wp2_with fail
      refine Calls.mono (sound_any A c1 n1 n2 _ (hB.below (below_alloc _ _)) h4 (by unfold maxLen; omega)) ?_
      rw [HSk.out]
      rintro e w2 ⟨rfl, hb2⟩
      have q0 := cel hb2 r0
      have q1 := cel hb2 r1
      have u0 : w2.frozen? ⟨w.heap.size, 0, none⟩ = false := ((go1 (w := wr) hb2).frozen (p := ⟨w.heap.size, 0, none⟩) (cell_lt r0)).trans f0
      have u1 : w2.frozen? ⟨w.heap.size, 1, none⟩ = false := ((go1 (w := wr) hb2).frozen (p := ⟨w.heap.size, 1, none⟩) (cell_lt r1)).trans f1
      clear r0 r1 f0 f1
      go_wp2
      refine bodyPost_ret (v := .tuple #[.agg #[.slice none 0 0, .int .i64 0], .int .u16 11]) (by simp [results, Tryd.results22, go_sem, q0, q1]) rfl ?_
      exact ⟨_, _, rfl, OwnB.nil _ _, ((on bw hb2).setCell (Nat.le_refl _) _).setCell (Nat.le_refl _) _⟩

theorem join_any (V : Option Addr) (c : Nat) (E : List (List UInt8 × Int)) (w : World) (hE : BsL w V E) (hlen : E.length ≤ 1000) (hl : ∀ e ∈ E, e.1.length ≤ 1073741824) :
    Calls Tryd.prog 22 #[.slice V E.length c] w fun e w' =>
      ∃ A' c', e = .returned (.tuple #[.agg #[.slice A' (joinSpec E).1.length c', .int .i64 (joinSpec E).2.1], .int .u16 (joinSpec E).2.2]) ∧ OwnB w' w.heap.size (.slice A' (joinSpec E).1.length c') (joinSpec E).1 ∧ Below w.heap.size w w' := by
  unfold joinSpec
  split
  · rename_i h; exact join_ok V c E w hE h hlen hl
  · rename_i h; exact join_err V c E w hE (by simpa using h) hlen hl

theorem BsL.two {w : World} {t : TypeId} {g : Nat} (hg : g = w.heap.size) {A B : Option Addr} {c d : Nat} {l m : List UInt8} {i j : Nat} (ha : Bs w A l) (hb : Bs w B m) (hi : i ≤ 9223372036854775807) (hj : j ≤ 9223372036854775807) :
    BsL (w.alloc (.cells #[.slice A l.length c, .int .i64 i, .slice B m.length d, .int .i64 j] t)) (some ⟨g, 0, none⟩) [(l, (i : Int)), (m, (j : Int))]   := fun k e he => by
  subst hg
  match k, he with
  | 0, he => simp at he; subst he; exact ⟨_, 0, A, c, rfl, box_cell _ _ _ _ _ rfl, box_cell _ _ _ _ _ rfl, ha.up, by simp; omega⟩
  | 1, he => simp at he; subst he; exact ⟨_, 0, B, d, rfl, box_cell _ _ _ _ _ rfl, box_cell _ _ _ _ _ rfl, hb.up, by simp; omega⟩
theorem BsL.three {w : World} {t : TypeId} {g : Nat} (hg : g = w.heap.size) {A B C : Option Addr} {c d f : Nat} {l m n : List UInt8} {i j q : Nat} (ha : Bs w A l) (hb : Bs w B m) (hc : Bs w C n) (hi : i ≤ 9223372036854775807) (hj : j ≤ 9223372036854775807) (hq : q ≤ 9223372036854775807) :
    BsL (w.alloc (.cells #[.slice A l.length c, .int .i64 i, .slice B m.length d, .int .i64 j, .slice C n.length f, .int .i64 q] t)) (some ⟨g, 0, none⟩) [(l, (i : Int)), (m, (j : Int)), (n, (q : Int))]   := fun k e he => by
  subst hg
  match k, he with
  | 0, he => simp at he; subst he; exact ⟨_, 0, A, c, rfl, box_cell _ _ _ _ _ rfl, box_cell _ _ _ _ _ rfl, ha.up, by simp; omega⟩
  | 1, he => simp at he; subst he; exact ⟨_, 0, B, d, rfl, box_cell _ _ _ _ _ rfl, box_cell _ _ _ _ _ rfl, hb.up, by simp; omega⟩
  | 2, he => simp at he; subst he; exact ⟨_, 0, C, f, rfl, box_cell _ _ _ _ _ rfl, box_cell _ _ _ _ _ rfl, hc.up, by simp; omega⟩

end Go.Proofs.YtfooggamdbdniaaDoor

/- The program's Put of layer 3. -/
namespace Go.Proofs.YtfooggamdbdniaaDoor
open Go.RowKit

theorem encode_any (h : Bool) (p l b v : Nat) (w : World) (hv : v < 18446744073709551616) (hp : p < 18446744073709551616) (hs : soundX ⟨h, p, l, b⟩ = true) (hT : Tab w) :
    Calls Tryd.prog 21 #[.agg #[.bool h, .int .u64 p, .int .u8 l, .int .u8 b], .int .u64 v] w fun e w' => EncOut (encX ⟨h, p, l, b⟩ v).1 (encX ⟨h, p, l, b⟩ v).2 w.heap.size e w' ∧ Below w.heap.size w w' := by
  unfold soundX at hs
  cases h
  · simp at hs
    have := encode_first p l b v _ w hv hp (by omega) rfl
    unfold encX
    rw [if_pos rfl]
    exact this
  · simp at hs
    unfold encX
    rw [if_neg (by simp)]
    by_cases h0 : v ^^^ p = 0
    · rw [if_pos h0]
      exact encode_same p l b v _ w hv hp (by omega) rfl h0
    · rw [if_neg h0]
      cases hh : holdsX l b (v ^^^ p)
      · rw [if_neg (by decide)]
        exact encode_new p l b v _ w hv hp (by omega) rfl hT h0 hh
      · rw [if_pos rfl]
        exact encode_old p l b v _ w hv hp (by omega) rfl h0 hh

/-- three boxes behind one another -/
theorem three_at (w : World) (b1 b2 b3 : Array Value) (t1 t2 t3 : TypeId) :
    Blk (((w.alloc (.cells b1 t1)).alloc (.cells b2 t2)).alloc (.cells b3 t3)) w.heap.size t1 b1 ∧ Blk (((w.alloc (.cells b1 t1)).alloc (.cells b2 t2)).alloc (.cells b3 t3)) (w.heap.size + 1) t2 b2 ∧
    Blk (((w.alloc (.cells b1 t1)).alloc (.cells b2 t2)).alloc (.cells b3 t3)) (w.heap.size + 2) t3 b3 ∧ Below w.heap.size w (((w.alloc (.cells b1 t1)).alloc (.cells b2 t2)).alloc (.cells b3 t3)) ∧ (((w.alloc (.cells b1 t1)).alloc (.cells b2 t2)).alloc (.cells b3 t3)).heap.size = w.heap.size + 3 := by
  have s1 : (w.alloc (.cells b1 t1)).heap.size = w.heap.size + 1 := by simp
  have s2 : ((w.alloc (.cells b1 t1)).alloc (.cells b2 t2)).heap.size = w.heap.size + 2 := by simp
  refine ⟨((Blk.new w _ _).alloc _).alloc _, ?_, ?_, ((below_alloc w _).alloc (by simp) _).alloc (by simp; omega) _, by simp⟩
  · have := (Blk.new (w.alloc (.cells b1 t1)) t2 b2).alloc (.cells b3 t3)
    rwa [s1] at this
  · have := Blk.new ((w.alloc (.cells b1 t1)).alloc (.cells b2 t2)) t3 b3
    rwa [s2] at this
theorem catE_two (l : List UInt8) (m : Nat) (M : List Bool) : catE [(l, (m : Int)), (pack M, (M.length : Int))] = bitl l m ++ M := by
  unfold catE
  simp [bits_pack]
theorem soundE_two {l : List UInt8} {m : Nat} (h : soundB l m = true) (M : List Bool) : soundE [(l, (m : Int)), (pack M, (M.length : Int))] = true := by
  unfold soundE
  simp [h, sound_pack]

set_option maxRecDepth 100000 in
set_option maxHeartbeats 1000000 in
theorem xput_any (A : Option Addr) (c : Nat) (l : List UInt8) (n : Int) (h : Bool) (p ld b v : Nat) (w : World) (hb : Bs w A l) (hn : -9223372036854775808 ≤ n ∧ n ≤ 9223372036854775807) (hl : l.length ≤ 100000)
    (hv : v < 18446744073709551616) (hp : p < 18446744073709551616) (hld : ld < 256) (hbb : b < 256) (hT : Tab w) :
    Calls Tryd.prog 12 #[.agg #[.slice A l.length c, .int .i64 n], .agg #[.bool h, .int .u64 p, .int .u8 ld, .int .u8 b], .int .u64 v] w fun e w' => PutOut (putX l n ⟨h, p, ld, b⟩ v) .u16 w.heap.size e w' ∧ Below w.heap.size w w' := by
  have F := four_new w #[.slice A l.length c, .int .i64 n] #[.bool h, .int .u64 p, .int .u8 ld, .int .u8 b] #[.slice none 0 0, .int .i64 0] #[.bool false, .int .u64 0, .int .u8 0, .int .u8 0] 29 24
  have hlm : l.length ≤ maxLen := by unfold maxLen; omega
  go_enter Tryd.func12, Tryd.ntmps12
  go_wp2_with fail
  have hb0 := hb.below F.t
  have HF := Lib.hid F
  clear F
  generalize (((w.alloc (.cells #[.slice A l.length c, .int .i64 n] 29)).alloc (.cells #[.bool h, .int .u64 p, .int .u8 ld, .int .u8 b] 24)).alloc (.cells #[.slice none 0 0, .int .i64 0] 29)).alloc (.cells #[.bool false, .int .u64 0, .int .u8 0, .int .u8 0] 24) = W at *
  refine (sound_any A c l n W hb0 hn hlm).mono ?_
  rintro e w1 ⟨rfl, b1⟩
  have HF1 := Lib.hid (HF.out.go b1)
  obtain ⟨⟨q0, q1, q2, q3⟩, g0, g1, g2, g3⟩ := HF1.out.h3.quad
  obtain ⟨⟨y0, y1⟩, x0, x1⟩ := HF1.out.h2.duo
  obtain ⟨⟨u0, u1, u2, u3⟩, -⟩ := HF1.out.h1.quad
  obtain ⟨⟨v0, v1⟩, -⟩ := HF1.out.h0.duo
  have a1 := hb0.below b1
  have HT := Lib.hid hT
  clear hT
  cases hs : soundB l n
  · have Hs := Lib.hid hs
    clear hs
    go_wp2_with fail
    have FF := HF1.out.fin (.slice none 0 0) (.int .i64 0) (.bool false) (.int .u64 0) (.int .u8 0) (.int .u8 0)
    obtain ⟨⟨s0, s1, s2, s3⟩, -⟩ := FF.h3.quad
    obtain ⟨⟨r0, r1⟩, -⟩ := FF.h2.duo
    refine bodyPost_ret (v := .tuple #[.agg #[.slice none 0 0, .int .i64 0], .agg #[.bool false, .int .u64 0, .int .u8 0, .int .u8 0], .int .u16 11]) (by simp [results, Tryd.results12, go_sem, r0, r1, s0, s1, s2, s3]) rfl ⟨?_, FF.t⟩
    unfold putX
    rw [if_pos Hs.out]
    exact ⟨none, 0, 0, rfl, rfl, OwnB.nil _ _⟩
  · have Hs := Lib.hid hs
    clear hs
    go_wp2_with fail
    refine (xsound_any h p ld b _ hld hbb).mono ?_
    rintro e w2 ⟨rfl, b2⟩
    have HF2 := Lib.hid (HF1.out.go b2)
    clear q0 q1 q2 q3 g0 g1 g2 g3 y0 y1 x0 x1 u0 u1 u2 u3 v0 v1
    obtain ⟨⟨q0, q1, q2, q3⟩, g0, g1, g2, g3⟩ := HF2.out.h3.quad
    obtain ⟨⟨y0, y1⟩, x0, x1⟩ := HF2.out.h2.duo
    obtain ⟨⟨u0, u1, u2, u3⟩, -⟩ := HF2.out.h1.quad
    obtain ⟨⟨v0, v1⟩, -⟩ := HF2.out.h0.duo
    have a2 := a1.below b2
    cases hx : soundX ⟨h, p, ld, b⟩
    · have Hx := Lib.hid hx
      clear hx
      go_wp2_with fail
      have FF := HF2.out.fin (.slice none 0 0) (.int .i64 0) (.bool false) (.int .u64 0) (.int .u8 0) (.int .u8 0)
      obtain ⟨⟨s0, s1, s2, s3⟩, -⟩ := FF.h3.quad
      obtain ⟨⟨r0, r1⟩, -⟩ := FF.h2.duo
      refine bodyPost_ret (v := .tuple #[.agg #[.slice none 0 0, .int .i64 0], .agg #[.bool false, .int .u64 0, .int .u8 0, .int .u8 0], .int .u16 30]) (by simp [results, Tryd.results12, go_sem, r0, r1, s0, s1, s2, s3]) rfl ⟨?_, FF.t⟩
      unfold putX
      rw [if_neg (by rw [Hs.out]; decide), if_pos Hx.out]
      exact ⟨none, 0, 0, rfl, rfl, OwnB.nil _ _⟩
    · obtain ⟨m, hm, hm8, -⟩ := sound_nat Hs.out
      have Hx := Lib.hid hx
      have HE := Lib.hid (encode_any h p ld b v w2 hv hp hx (tabGo HT.out HF2.out.t))
      clear hx
      subst hm
      go_wp2_with fail
      refine HE.out.mono ?_
      rintro e w3 ⟨HW, b3⟩
      obtain ⟨A3, n3, c3, hn3, rfl, o3⟩ := HW
      have hlen := enc_len (s := ⟨h, p, ld, b⟩) (v := v) Hx.out hp hv
      obtain ⟨M, th, tp, tl, tb, hMT⟩ : ∃ M th tp tl tb, encX ⟨h, p, ld, b⟩ v = (M, ⟨th, tp, tl, tb⟩) := ⟨_, _, _, _, _, rfl⟩
      simp only [hMT] at hn3 o3 hlen ⊢
      have HMT := Lib.hid hMT
      have HF3 := Lib.hid (HF2.out.go b3)
      clear q0 q1 q2 q3 g0 g1 g2 g3 y0 y1 x0 x1 u0 u1 u2 u3 v0 v1 hMT HE
      subst hn3
      have a3 := a2.below b3
      have HA3 := Lib.hid a3
      have HMl : Hid (M.length ≤ 77) := Lib.hid hlen.2
      clear hlen
      obtain ⟨⟨v0, v1⟩, -⟩ := HF3.out.h0.duo
      have kA := keepA
      have kF := keepF
      have Ho3 := Lib.hid o3
      clear o3
      go_wp2_with fail
      obtain ⟨b9, b10, b11, t34, s4⟩ := three_at w3 #[.slice A3 (pack M).length c3, .int .i64 M.length] #[.bool th, .int .u64 tp, .int .u8 tl, .int .u8 tb] #[.slice A l.length c, .int .i64 m, .slice A3 (pack M).length c3, .int .i64 M.length] 29 24 29
      obtain ⟨W4, hW4⟩ : ∃ W4, W4 = ((w3.alloc (.cells #[.slice A3 (pack M).length c3, .int .i64 M.length] 29)).alloc (.cells #[.bool th, .int .u64 tp, .int .u8 tl, .int .u8 tb] 24)).alloc (.cells #[.slice A l.length c, .int .i64 m, .slice A3 (pack M).length c3, .int .i64 M.length] 29) := ⟨_, rfl⟩
      rw [← hW4] at b9 b10 b11 t34 s4 ⊢
      have HBs : BsL W4 (some ⟨w3.heap.size + 2, 0, none⟩) [(l, (m : Int)), (pack M, (M.length : Int))] := fun i e hi => by
        match i, hi with
        | 0, hi =>
          simp at hi
          subst hi
          exact ⟨_, _, A, c, rfl, b11.cell 0, b11.cell 1, HA3.out.below t34, by simp only; omega⟩
        | 1, hi =>
          simp at hi
          subst hi
          exact ⟨_, _, A3, c3, rfl, b11.cell 2, b11.cell 3, (Ho3.out.below t34).bs, by simp only; have := HMl.out; omega⟩
        | i + 2, hi => simp at hi
      have hJ := join_ok (some ⟨w3.heap.size + 2, 0, none⟩) 2 [(l, (m : Int)), (pack M, (M.length : Int))] W4 HBs (soundE_two Hs.out M) (by simp) (by
        intro e he
        simp at he
        rcases he with rfl | rfl
        · simp only; omega
        · simp only; have := pack_le M HMl.out; omega)
      rw [catE_two] at hJ
      obtain ⟨BS, hBS⟩ : ∃ BS, BS = bitl l m ++ M := ⟨_, rfl⟩
      rw [← hBS] at hJ
      have HJ := Lib.hid hJ
      have HBS := Lib.hid hBS
      have HF4 := Lib.hid (HF3.out.go t34)
      have HX := Lib.hid b10
      have Hs4 := Lib.hid s4
      clear hJ hBS HBs b9 b10 b11 hW4 s4 kA kF v0 v1
      refine HJ.out.mono ?_
      rintro e w5 ⟨A5, c5, rfl, o5, b5⟩
      have HF5 := Lib.hid ((HF4.out.go b5).go (below_alloc w5 (.cells #[.slice A5 (pack BS).length c5, .int .i64 BS.length] 29)))
      have HX5 := Lib.hid ((HX.out.below b5 HX.out.lt).alloc (.cells #[.slice A5 (pack BS).length c5, .int .i64 BS.length] 29))
      have HY5 := Lib.hid (Blk.new w5 29 #[.slice A5 (pack BS).length c5, .int .i64 BS.length])
      have o6 := (o5.alloc (.cells #[.slice A5 (pack BS).length c5, .int .i64 BS.length] 29))
      go_wp2_with fail
      obtain ⟨W6, hW6⟩ : ∃ W6, W6 = w5.alloc (.cells #[.slice A5 (pack BS).length c5, .int .i64 BS.length] 29) := ⟨_, rfl⟩
      rw [← hW6] at HF5 HX5 HY5 o6 ⊢
      have z45 : w3.heap.size + 3 ≤ w5.heap.size := by have := b5.size; have := Hs4.out; omega
      have z3 := HF3.out.z
      obtain ⟨⟨m0, m1, m2, m3⟩, k0, k1, k2, k3⟩ := HF5.out.h3.quad
      obtain ⟨⟨y0, y1⟩, x0, x1⟩ := HF5.out.h2.duo
      have dq : W6.cell? ⟨w5.heap.size, 0, none⟩ = some (.slice A5 (pack BS).length c5) ∧ W6.cell? ⟨w5.heap.size, 1, none⟩ = some (.int .i64 BS.length) ∧ W6.cell? ⟨w3.heap.size + 1, 0, none⟩ = some (.bool th) ∧ W6.cell? ⟨w3.heap.size + 1, 1, none⟩ = some (.int .u64 tp) ∧ W6.cell? ⟨w3.heap.size + 1, 2, none⟩ = some (.int .u8 tl) ∧ W6.cell? ⟨w3.heap.size + 1, 3, none⟩ = some (.int .u8 tb) :=
        ⟨HY5.out.cell 0, HY5.out.cell 1, HX5.out.cell 0, HX5.out.cell 1, HX5.out.cell 2, HX5.out.cell 3⟩
      have nf1 := fun (W : World) (i j : Nat) (u : Value) => World.cell?_setCell_far W ⟨w.heap.size + 1 + 1, i, none⟩ ⟨w5.heap.size, j, none⟩ u (by simp; omega)
      have nf2 := fun (W : World) (i j : Nat) (u : Value) => World.cell?_setCell_far W ⟨w.heap.size + 1 + 1, i, none⟩ ⟨w3.heap.size + 1, j, none⟩ u (by simp; omega)
      have nf3 := fun (W : World) (i j : Nat) (u : Value) => World.cell?_setCell_far W ⟨w.heap.size + 1 + 1 + 1, i, none⟩ ⟨w5.heap.size, j, none⟩ u (by simp; omega)
      have nf4 := fun (W : World) (i j : Nat) (u : Value) => World.cell?_setCell_far W ⟨w.heap.size + 1 + 1 + 1, i, none⟩ ⟨w3.heap.size + 1, j, none⟩ u (by simp; omega)
      have ndr : ∀ (W : World) (a : Addr), W.drew.cell? a = W.cell? a := fun _ _ => rfl
      clear hW6 z45 z3
      go_region_held3 (fun w' => w'.cell? ⟨w5.heap.size, 0, none⟩ = some (.slice A5 (pack BS).length c5) ∧ w'.cell? ⟨w5.heap.size, 1, none⟩ = some (.int .i64 BS.length) ∧ w'.cell? ⟨w3.heap.size + 1, 0, none⟩ = some (.bool th) ∧ w'.cell? ⟨w3.heap.size + 1, 1, none⟩ = some (.int .u64 tp) ∧ w'.cell? ⟨w3.heap.size + 1, 2, none⟩ = some (.int .u8 tl) ∧ w'.cell? ⟨w3.heap.size + 1, 3, none⟩ = some (.int .u8 tb)) (first | (simp only [ndr]; with_reducible exact dq) | (simp only [ndr, nf1, nf2, nf3, nf4]; with_reducible exact dq)) (fail)
      go_wp2_with fail
      have FF := HF5.out.fin (.slice A5 (pack BS).length c5) (.int .i64 BS.length) (.bool th) (.int .u64 tp) (.int .u8 tl) (.int .u8 tb)
      obtain ⟨⟨s0, s1, s2, s3⟩, -⟩ := FF.h3.quad
      obtain ⟨⟨z0, z1⟩, -⟩ := FF.h2.duo
      have he : putX l m ⟨h, p, ld, b⟩ v = (pack BS, BS.length, ⟨th, tp, tl, tb⟩, 0) := by
        unfold putX
        rw [if_neg (by rw [Hs.out]; decide), if_neg (by rw [Hx.out]; decide), HMT.out, Int.toNat_natCast, ← HBS.out]
      rw [he]
      refine bodyPost_ret (v := .tuple #[.agg #[.slice A5 (pack BS).length c5, .int .i64 BS.length], .agg #[.bool th, .int .u64 tp, .int .u8 tl, .int .u8 tb], .int .u16 0]) (by simp [results, Tryd.results12, go_sem, z0, z1, s0, s1, s2, s3]) rfl ⟨⟨A5, _, c5, rfl, rfl, (o6.fin HF4.out.z (.slice A5 (pack BS).length c5) (.int .i64 BS.length) (.bool th) (.int .u64 tp) (.int .u8 tl) (.int .u8 tb)).drew⟩, FF.t.drew⟩

end Go.Proofs.YtfooggamdbdniaaDoor

/- known of layer 3. -/
namespace Go.Proofs.YtfooggamdbdniaaDoor
open Go.RowKit

theorem xput_M (A : Option Addr) (c : Nat) (M N : List Bool) (h : Bool) (p l b v : Nat) (T : XV) (w : World) (hE : encX ⟨h, p, l, b⟩ v = (N, T)) (hs : soundX ⟨h, p, l, b⟩ = true) (hb : Bs w A (pack M)) (hM : M.length ≤ 500000) (hv : v < 18446744073709551616) (hp : p < 18446744073709551616) (hT : Tab w) :
    Calls Tryd.prog 12 #[.agg #[.slice A (pack M).length c, .int .i64 M.length], .agg #[.bool h, .int .u64 p, .int .u8 l, .int .u8 b], .int .u64 v] w fun e w' =>
      ∃ A' c', e = .returned (.tuple #[.agg #[.slice A' (pack (M ++ N)).length c', .int .i64 ((M ++ N).length : Nat)], .agg #[.bool T.has, .int .u64 (T.prev : Nat), .int .u8 (T.lead : Nat), .int .u8 (T.width : Nat)], .int .u16 0]) ∧ OwnB w' w.heap.size (.slice A' (pack (M ++ N)).length c') (pack (M ++ N)) ∧ Below w.heap.size w w' := by
  have hlb : l < 256 ∧ b < 256 := by
    unfold soundX at hs
    cases h <;> simp at hs <;> omega
  refine (xput_any A c (pack M) M.length h p l b v w hb (by omega) (by rw [pack_length]; unfold nb; omega) hv hp hlb.1 hlb.2 hT).mono ?_
  rintro e w' ⟨⟨A', n', c', rfl, rfl, ho⟩, hB⟩
  have he : putX (pack M) M.length ⟨h, p, l, b⟩ v = (pack (M ++ N), (M ++ N).length, T, 0) := by
    unfold putX
    rw [if_neg (by rw [sound_pack]; decide), if_neg (by rw [hs]; decide), Int.toNat_natCast, bits_pack, hE]
  rw [he] at ho ⊢
  exact ⟨A', c', rfl, ho, hB⟩

theorem ex1 : encX ⟨false, 0, 0, 0⟩ 1 = (valB 1 64, ⟨true, 1, 0, 0⟩) := rfl
theorem ex2 : encX ⟨true, 1, 0, 0⟩ 1 = ([false], ⟨true, 1, 0, 0⟩) := by kernel_rfl
theorem ex3 : (encX ⟨true, 1, 0, 0⟩ 3).2 = ⟨true, 3, 31, 32⟩ ∧ (encX ⟨true, 1, 0, 0⟩ 3).1.length = 45 := ⟨by kernel_rfl, by kernel_rfl⟩
theorem ex4 : (encX ⟨true, 3, 31, 32⟩ 1).2 = ⟨true, 1, 31, 32⟩ ∧ (encX ⟨true, 3, 31, 32⟩ 1).1.length = 34 := ⟨by kernel_rfl, by kernel_rfl⟩

/-- two boxes behind one another -/
theorem two_at (w : World) (b1 b2 : Array Value) (t1 t2 : TypeId) :
    Blk ((w.alloc (.cells b1 t1)).alloc (.cells b2 t2)) w.heap.size t1 b1 ∧ Blk ((w.alloc (.cells b1 t1)).alloc (.cells b2 t2)) (w.heap.size + 1) t2 b2 ∧ Below w.heap.size w ((w.alloc (.cells b1 t1)).alloc (.cells b2 t2)) := by
  have s1 : (w.alloc (.cells b1 t1)).heap.size = w.heap.size + 1 := by simp
  refine ⟨(Blk.new w _ _).alloc _, ?_, (below_alloc w _).alloc (by simp) _⟩
  have := Blk.new (w.alloc (.cells b1 t1)) t2 b2
  rwa [s1] at this

set_option maxRecDepth 100000 in
set_option maxHeartbeats 1000000 in
theorem xknown_any (w : World) (hT : Tab w) : Calls Tryd.prog 9 #[] w fun e w' => e = .returned (.bool true) ∧ Below w.heap.size w w' := by
  have HT := Lib.hid hT
  clear hT
  obtain ⟨N3, hN3, hl3⟩ : ∃ N, encX ⟨true, 1, 0, 0⟩ 3 = (N, ⟨true, 3, 31, 32⟩) ∧ N.length = 45 := ⟨_, by rw [← ex3.1], ex3.2⟩
  obtain ⟨N4, hN4, hl4⟩ : ∃ N, encX ⟨true, 3, 31, 32⟩ 1 = (N, ⟨true, 1, 31, 32⟩) ∧ N.length = 34 := ⟨_, by rw [← ex4.1], ex4.2⟩
  have H3 := Lib.hid hN3
  have H4 := Lib.hid hN4
  obtain ⟨M1, hM1⟩ : ∃ M, M = [] ++ valB 1 64 := ⟨_, rfl⟩
  obtain ⟨M2, hM2⟩ : ∃ M, M = M1 ++ [false] := ⟨_, rfl⟩
  obtain ⟨M3, hM3⟩ : ∃ M, M = M2 ++ N3 := ⟨_, rfl⟩
  obtain ⟨M4, hM4⟩ : ∃ M, M = M3 ++ N4 := ⟨_, rfl⟩
  have l1 : M1.length = 64 := by rw [hM1]; simp [valB_length]
  have l2 : M2.length = 65 := by rw [hM2]; simp [l1]
  have l3 : M3.length = 110 := by rw [hM3]; simp [l2, hl3]
  have l4 : M4.length = 144 := by rw [hM4]; simp [l3, hl4]
  have K1 := Lib.hid hM1
  have K2 := Lib.hid hM2
  have K3 := Lib.hid hM3
  have K4 := Lib.hid hM4
  have L1 := Lib.hid l1
  have L2 := Lib.hid l2
  have L3 := Lib.hid l3
  have L4 := Lib.hid l4
  have c0 := Lib.hid (xput_M none 0 [] (valB 1 64) false 0 0 0 1 ⟨true, 1, 0, 0⟩ w ex1 rfl (Bs.nil _ _) (by simp) (by decide) (by decide) HT.out)
  clear hN3 hN4 hM1 hM2 hM3 hM4 l1 l2 l3 l4 hl3 hl4
  go_enter Tryd.func9, Tryd.ntmps9
  go_wp2_with fail
  refine c0.out.mono ?_
  rintro e w1 ⟨A1, c1, rfl, o1, b1⟩
  rw [← K1.out] at o1 ⊢
  obtain ⟨d1, -, s1⟩ := two_at w1 #[.slice A1 (pack M1).length c1, .int .i64 M1.length] #[.bool true, .int .u64 1, .int .u8 0, .int .u8 0] 29 24
  obtain ⟨W1, hW1⟩ : ∃ W, W = (w1.alloc (.cells #[.slice A1 (pack M1).length c1, .int .i64 M1.length] 29)).alloc (.cells #[.bool true, .int .u64 1, .int .u8 0, .int .u8 0] 24) := ⟨_, rfl⟩
  rw [← hW1] at d1 s1
  have D1 := Lib.hid d1
  have t1 : Below w.heap.size w W1 := on1 b1 s1
  have HW1 := Lib.hid hW1
  have c2 := Lib.hid (xput_M A1 c1 M1 [false] true 1 0 0 1 ⟨true, 1, 0, 0⟩ W1 ex2 rfl (o1.below s1).bs (by have := L1.out; omega) (by decide) (by decide) (tabGo HT.out t1))
  clear d1 hW1 o1
  go_wp2_with fail
  rw [← HW1.out]
  refine c2.out.mono ?_
  clear c2
  rintro e w2 ⟨A2, c2, rfl, o2, b2⟩
  rw [← K2.out] at o2 ⊢
  obtain ⟨d2, x2, s2⟩ := two_at w2 #[.slice A2 (pack M2).length c2, .int .i64 M2.length] #[.bool true, .int .u64 1, .int .u8 0, .int .u8 0] 29 24
  obtain ⟨W2, hW2⟩ : ∃ W, W = (w2.alloc (.cells #[.slice A2 (pack M2).length c2, .int .i64 M2.length] 29)).alloc (.cells #[.bool true, .int .u64 1, .int .u8 0, .int .u8 0] 24) := ⟨_, rfl⟩
  rw [← hW2] at d2 x2 s2
  have D2 := Lib.hid d2
  have t2 : Below w.heap.size w W2 := on1 (on1 t1 b2) s2
  have HW2 := Lib.hid hW2
  have E1 := Lib.hid ((D1.out.below b2 D1.out.lt).below s2 (D1.out.below b2 D1.out.lt).lt)
  clear D1
  have D1 := E1
  clear E1
  have c3 := Lib.hid (xput_M A2 c2 M2 N3 true 1 0 0 3 ⟨true, 3, 31, 32⟩ W2 H3.out rfl (o2.below s2).bs (by have := L2.out; omega) (by decide) (by decide) (tabGo HT.out t2))
  clear d2 x2 hW2 o2
  go_wp2_with fail
  rw [← HW2.out]
  refine c3.out.mono ?_
  clear c3
  rintro e w3 ⟨A3, c3, rfl, o3, b3⟩
  rw [← K3.out] at o3 ⊢
  obtain ⟨d3, x3, s3⟩ := two_at w3 #[.slice A3 (pack M3).length c3, .int .i64 M3.length] #[.bool true, .int .u64 3, .int .u8 31, .int .u8 32] 29 24
  obtain ⟨W3, hW3⟩ : ∃ W, W = (w3.alloc (.cells #[.slice A3 (pack M3).length c3, .int .i64 M3.length] 29)).alloc (.cells #[.bool true, .int .u64 3, .int .u8 31, .int .u8 32] 24) := ⟨_, rfl⟩
  rw [← hW3] at d3 x3 s3
  have D3 := Lib.hid d3
  have t3 : Below w.heap.size w W3 := on1 (on1 t2 b3) s3
  have HW3 := Lib.hid hW3
  have E1 := Lib.hid ((D1.out.below b3 D1.out.lt).below s3 (D1.out.below b3 D1.out.lt).lt)
  clear D1
  have D1 := E1
  clear E1
  have E2 := Lib.hid ((D2.out.below b3 D2.out.lt).below s3 (D2.out.below b3 D2.out.lt).lt)
  clear D2
  have D2 := E2
  clear E2
  have X3 := Lib.hid x3
  have c4 := Lib.hid (xput_M A3 c3 M3 N4 true 3 31 32 1 ⟨true, 1, 31, 32⟩ W3 H4.out rfl (o3.below s3).bs (by have := L3.out; omega) (by decide) (by decide) (tabGo HT.out t3))
  clear d3 x3 hW3 o3
  go_wp2_with fail
  rw [← HW3.out]
  refine c4.out.mono ?_
  clear c4
  rintro e w4 ⟨A4, c4, rfl, o4, b4⟩
  rw [← K4.out] at o4 ⊢
  have t4 : Below w.heap.size w w4 := on1 t3 b4
  have f1 := (D1.out.below b4 D1.out.lt).cell 1
  have f2 := (D2.out.below b4 D2.out.lt).cell 1
  have f3 := (D3.out.below b4 D3.out.lt).cell 1
  obtain ⟨⟨u0, u1, u2, u3⟩, -⟩ := (X3.out.below b4 X3.out.lt).quad
  have g1 : ((M1.length : Int) == 64) = true := by rw [L1.out]; rfl
  have g2 : ((M2.length : Int) == 65) = true := by rw [L2.out]; rfl
  have g3 : ((M3.length : Int) == 110) = true := by rw [L3.out]; rfl
  have g4 : IntKind.i64.wrap ((M3.length : Int) + 34) = (M4.length : Int) := by rw [L3.out, L4.out]; rfl
  have y1 := D1.out.lt
  have y2 := D2.out.lt
  have y3 := D3.out.lt
  have y4 := X3.out.lt
  have z4 := b4.size
  clear o4
  have kA := keepA
  have kF := keepF
  go_wp2_with fail
  go_ret
  exact ⟨rfl, t4.trans ((below_alloc2 w4 _ _).mono t4.size)⟩

theorem one_at (w : World) (b : Array Value) (t : TypeId) : Blk (w.alloc (.cells b t)) w.heap.size t b ∧ Below w.heap.size w (w.alloc (.cells b t)) := ⟨Blk.new w _ _, below_alloc w _⟩

theorem putX_code (l : List UInt8) (n : Int) (s : XV) (v : Nat) : (putX l n s v).2.2.2 ≤ 30 := by
  unfold putX
  split
  · simp
  · split <;> simp

end Go.Proofs.YtfooggamdbdniaaDoor

/- Plain mathematics: bits read one after another; layer 3's decoding in the program's own steps. -/
namespace Go.Proofs.YtfooggamdbdniaaDoor

theorem numB_app (xs ys : List Bool) : numB (xs ++ ys) = numB xs * 2 ^ ys.length + numB ys := by
  induction ys using snoc_ind with
  | h0 => simp [numB_nil]
  | h1 ys b ih =>
    rw [← List.append_assoc, numB_snoc, numB_snoc, ih, List.length_append]
    simp only [List.length_cons, List.length_nil, Nat.zero_add, Nat.pow_succ]
    rw [← Nat.mul_assoc]
    omega

theorem cutl_bitl (l : List UInt8) (m a d : Nat) (h : a + d ≤ m) : cutl l a d = ((bitl l m).drop a).take d := by
  apply List.ext_getElem
  · rw [cutl_length, List.length_take, List.length_drop, bitl_length]; omega
  · intro i h1 h2
    simp [cutl, bitl]

theorem get_front {l : List UInt8} {m a d : Nat} (hs : soundB l (m : Int) = true) (ha : a ≤ m) (hd : d ≤ 64) :
    getSpec l (m : Int) (a : Int) (d : Int) = if ((bitl l m).drop a).length < d then (0, 10) else (numB (((bitl l m).drop a).take d), 0) := by
  unfold getSpec
  rw [if_neg (by rw [hs]; decide), if_neg (by omega), List.length_drop, bitl_length]
  by_cases h : m - a < d
  · rw [if_pos (by omega), if_pos h]
  · rw [if_neg (by omega), if_neg h, Int.toNat_natCast, Int.toNat_natCast, cutl_bitl l m a d (by omega)]

theorem get_out {l : List UInt8} {m : Nat} {a d : Int} (hs : soundB l (m : Int) = true) (ha : a < 0 ∨ (m : Int) < a) (hd : 0 ≤ d ∧ d ≤ 64) : getSpec l (m : Int) a d = (0, 10) := by
  unfold getSpec
  rw [if_neg (by rw [hs]; decide), if_neg (by omega), if_pos (by omega)]

/-- eleven bits: five and six -/
theorem numB_eleven (r : List Bool) (h : 11 ≤ r.length) : numB (r.take 11) / 64 = numB (r.take 5) ∧ numB (r.take 11) % 64 = numB ((r.drop 5).take 6) := by
  have e : r.take 11 = r.take 5 ++ (r.drop 5).take 6 := by rw [← List.take_add]
  have h6 : ((r.drop 5).take 6).length = 6 := by simp; omega
  have hl := numB_lt ((r.drop 5).take 6)
  rw [e, numB_app, h6]
  rw [h6] at hl
  omega

/-- a difference in the band that there is: it, how many bits, the band, the error -/
def oldD (L W : Nat) (r : List Bool) : Nat × Nat × Nat × Nat × Nat :=
  if r.length < W then (0, 0, 0, 0, 10) else if numB (r.take W) = 0 then (0, 0, 0, 0, 30) else (numB (r.take W) * 2 ^ (64 - L - W), W, L, W, 0)
/-- a band, and a difference in it -/
def newD (L W : Nat) (r : List Bool) : Nat × Nat × Nat × Nat × Nat :=
  if r.length < 11 then (0, 0, 0, 0, 10)
  else if 64 < numB (r.take 5) + (numB ((r.drop 5).take 6) + 1) then (0, 0, 0, 0, 30)
  else if r.length < 11 + (numB ((r.drop 5).take 6) + 1) then (0, 0, 0, 0, 10)
  else if holdsX L W (numB ((r.drop 11).take (numB ((r.drop 5).take 6) + 1)) * 2 ^ (64 - numB (r.take 5) - (numB ((r.drop 5).take 6) + 1))) = true ∨
        ¬ (leadX (numB ((r.drop 11).take (numB ((r.drop 5).take 6) + 1)) * 2 ^ (64 - numB (r.take 5) - (numB ((r.drop 5).take 6) + 1))) = numB (r.take 5) ∧
           widX (numB ((r.drop 11).take (numB ((r.drop 5).take 6) + 1)) * 2 ^ (64 - numB (r.take 5) - (numB ((r.drop 5).take 6) + 1))) = numB ((r.drop 5).take 6) + 1) then (0, 0, 0, 0, 30)
  else (numB ((r.drop 11).take (numB ((r.drop 5).take 6) + 1)) * 2 ^ (64 - numB (r.take 5) - (numB ((r.drop 5).take 6) + 1)), 11 + (numB ((r.drop 5).take 6) + 1), numB (r.take 5), numB ((r.drop 5).take 6) + 1, 0)
/-- the difference, how many bits, the band, the error -/
def decD (s : XV) (r : List Bool) : Nat × Nat × Nat × Nat × Nat :=
  if s.has = false then (if r.length < 64 then (0, 0, 0, 0, 10) else (numB (r.take 64), 64, 0, 0, 0))
  else match r with
  | [] => (0, 0, 0, 0, 10)
  | false :: _ => (0, 1, s.lead, s.width, 0)
  | [true] => (0, 0, 0, 0, 10)
  | true :: false :: r => ((oldD s.lead s.width r).1, 2 + (oldD s.lead s.width r).2.1, (oldD s.lead s.width r).2.2)
  | true :: true :: r => ((newD s.lead s.width r).1, 2 + (newD s.lead s.width r).2.1, (newD s.lead s.width r).2.2)

/-- what is known, out of the band -/
def upD (s : XV) (D : Nat × Nat × Nat × Nat × Nat) : Nat × Nat × XV × Nat :=
  if D.2.2.2.2 = 0 then (D.1 ^^^ s.prev, D.2.1, ⟨true, D.1 ^^^ s.prev, D.2.2.1, D.2.2.2.1⟩, 0) else (0, 0, xv0, D.2.2.2.2)

theorem decX_D {s : XV} (hs : soundX s = true) (r : List Bool) : decX s r = upD s (decD s r) := by
  unfold decX decD
  by_cases hh : s.has = false
  · rw [if_pos hh, if_pos hh]
    unfold soundX at hs
    rw [hh] at hs
    simp at hs
    split
    · rfl
    · unfold upD
      simp [hs.1]
  · rw [if_neg hh, if_neg hh]
    have ht : s.has = true := by simpa using hh
    rcases r with _ | ⟨_ | _, r⟩
    · rfl
    · obtain ⟨h, p, l, b⟩ := s
      simp at ht
      simp [upD, ht]
    · rcases r with _ | ⟨_ | _, r⟩
      · rfl
      · dsimp only
        by_cases h1 : r.length < s.width
        · simp only [oldD, h1, ↓reduceIte]; rfl
        · by_cases h2 : numB (r.take s.width) = 0
          · simp only [oldD, h1, h2, ↓reduceIte]; rfl
          · simp only [oldD, h1, h2, ↓reduceIte]; rfl
      · dsimp only
        by_cases h1 : r.length < 11
        · simp only [newD, h1, ↓reduceIte]; rfl
        · simp only [newD, h1, ↓reduceIte]
          generalize numB (r.take 5) = L at *
          generalize numB ((r.drop 5).take 6) = X at *
          by_cases h2 : 64 < L + (X + 1)
          · simp only [h2, ↓reduceIte]; rfl
          · simp only [h2, ↓reduceIte]
            by_cases h3 : r.length < 11 + (X + 1)
            · simp only [h3, ↓reduceIte]; rfl
            · simp only [h3, ↓reduceIte]
              generalize numB ((r.drop 11).take (X + 1)) * 2 ^ (64 - L - (X + 1)) = d at *
              by_cases h4 : holdsX s.lead s.width d = true ∨ ¬ (leadX d = L ∧ widX d = X + 1)
              · rw [if_pos h4, if_pos h4]; rfl
              · rw [if_neg h4, if_neg h4]
                simp only [upD, ↓reduceIte]
                rw [show 13 + (X + 1) = 2 + (11 + (X + 1)) by omega]

theorem decD_ok (s : XV) (r : List Bool) : (decD s r).2.2.2.2 ≤ 30 := by
  have hO : ∀ (L W : Nat) (r : List Bool), (oldD L W r).2.2.2.2 ≤ 30 := by
    intro L W r
    unfold oldD
    split
    · simp
    · split <;> simp
  have hN : ∀ (L W : Nat) (r : List Bool), (newD L W r).2.2.2.2 ≤ 30 := by
    intro L W r
    unfold newD
    split
    · simp
    · split
      · simp
      · split
        · simp
        · split <;> simp
  unfold decD
  split
  · split <;> simp
  · split
    · simp
    · simp
    · simp
    · exact hO _ _ _
    · exact hN _ _ _

/-- what the program reads, against the difference in the band that there is -/
theorem old_facts {l : List UInt8} {m a L W : Nat} (hs : soundB l (m : Int) = true) (ha : a ≤ m) (hLW : L + W ≤ 64) :
    ∃ g1 g2 : Nat, getSpec l (m : Int) (a : Int) (W : Int) = (g1, g2) ∧ g1 < 2 ^ W ∧ g2 ≤ 11 ∧ (oldD L W ((bitl l m).drop a)).2.2.2.2 = (if g2 = 0 ∧ g1 = 0 then 30 else g2) ∧
      ((oldD L W ((bitl l m).drop a)).2.2.2.2 = 0 → g1 * 2 ^ (64 - L - W) = (oldD L W ((bitl l m).drop a)).1 ∧ (oldD L W ((bitl l m).drop a)).2.1 = W ∧ (oldD L W ((bitl l m).drop a)).2.2.1 = L ∧ (oldD L W ((bitl l m).drop a)).2.2.2.1 = W) := by
  rw [get_front hs ha (by omega)]
  generalize (bitl l m).drop a = r
  by_cases h1 : r.length < W
  · refine ⟨0, 10, by rw [if_pos h1], Nat.two_pow_pos _, by omega, ?_, ?_⟩ <;> simp [oldD, h1]
  · have hl := numB_lt (r.take W)
    rw [List.length_take, Nat.min_eq_left (by omega)] at hl
    refine ⟨numB (r.take W), 0, by rw [if_neg h1], hl, by omega, ?_, ?_⟩ <;> by_cases h2 : numB (r.take W) = 0 <;> simp [oldD, h1, h2]

theorem shl_lt {g W L : Nat} (h : g < 2 ^ W) (hLW : L + W ≤ 64) : g * 2 ^ (64 - L - W) < 18446744073709551616 := by
  have h1 : g * 2 ^ (64 - L - W) < 2 ^ W * 2 ^ (64 - L - W) := Nat.mul_lt_mul_of_pos_right h (Nat.two_pow_pos _)
  rw [← Nat.pow_add, show W + (64 - L - W) = 64 - L by omega] at h1
  exact Nat.lt_of_lt_of_le h1 (show 2 ^ (64 - L) ≤ 2 ^ 64 from Nat.pow_le_pow_right (by decide) (by omega))

/-- what the program reads, against a band and a difference in it -/
theorem new_facts {l : List UInt8} {m a L W : Nat} (hs : soundB l (m : Int) = true) (ha : a ≤ m) :
    ∃ g1 g2 : Nat, getSpec l (m : Int) (a : Int) 11 = (g1, g2) ∧ ((g2 = 10 ∧ g1 = 0 ∧ newD L W ((bitl l m).drop a) = (0, 0, 0, 0, 10)) ∨
      (g2 = 0 ∧ g1 < 2048 ∧ a + 11 ≤ m ∧ ((64 < g1 / 64 + (g1 % 64 + 1) ∧ newD L W ((bitl l m).drop a) = (0, 0, 0, 0, 30)) ∨
        (g1 / 64 + (g1 % 64 + 1) ≤ 64 ∧ ∃ n1 n2 : Nat, getSpec l (m : Int) ((a + 11 : Nat) : Int) ((g1 % 64 + 1 : Nat) : Int) = (n1, n2) ∧ n1 < 2 ^ (g1 % 64 + 1) ∧
          ((n2 = 10 ∧ n1 = 0 ∧ newD L W ((bitl l m).drop a) = (0, 0, 0, 0, 10)) ∨
           (n2 = 0 ∧ ((holdsX L W (n1 * 2 ^ (64 - g1 / 64 - (g1 % 64 + 1))) = true ∧ newD L W ((bitl l m).drop a) = (0, 0, 0, 0, 30)) ∨
              (holdsX L W (n1 * 2 ^ (64 - g1 / 64 - (g1 % 64 + 1))) = false ∧ ((¬ (leadX (n1 * 2 ^ (64 - g1 / 64 - (g1 % 64 + 1))) = g1 / 64 ∧ widX (n1 * 2 ^ (64 - g1 / 64 - (g1 % 64 + 1))) = g1 % 64 + 1) ∧ newD L W ((bitl l m).drop a) = (0, 0, 0, 0, 30)) ∨
                 ((leadX (n1 * 2 ^ (64 - g1 / 64 - (g1 % 64 + 1))) = g1 / 64 ∧ widX (n1 * 2 ^ (64 - g1 / 64 - (g1 % 64 + 1))) = g1 % 64 + 1) ∧ newD L W ((bitl l m).drop a) = (n1 * 2 ^ (64 - g1 / 64 - (g1 % 64 + 1)), 11 + (g1 % 64 + 1), g1 / 64, g1 % 64 + 1, 0))))))))))) := by
  have h0 := get_front (d := 11) hs ha (by omega)
  rw [show ((11 : Nat) : Int) = 11 from rfl] at h0
  rw [h0]
  have hlen : ((bitl l m).drop a).length = m - a := by rw [List.length_drop, bitl_length]
  have hdr : (bitl l m).drop (a + 11) = ((bitl l m).drop a).drop 11 := by rw [List.drop_drop]
  by_cases h1 : ((bitl l m).drop a).length < 11
  · refine ⟨0, 10, by rw [if_pos h1], Or.inl ⟨rfl, rfl, ?_⟩⟩
    simp only [newD, h1, ↓reduceIte]
  · rw [if_neg h1]
    have hg := get_front (a := a + 11) (d := numB (((bitl l m).drop a).take 11) % 64 + 1) hs (by omega) (by omega)
    rw [hdr] at hg
    obtain ⟨e1, e2⟩ := numB_eleven ((bitl l m).drop a) (by omega)
    have hlt := numB_lt (((bitl l m).drop a).take 11)
    rw [List.length_take, Nat.min_eq_left (by omega)] at hlt
    refine ⟨_, 0, rfl, Or.inr ⟨rfl, hlt, by omega, ?_⟩⟩
    generalize (bitl l m).drop a = r at *
    unfold newD
    rw [if_neg h1, ← e1, ← e2]
    generalize numB (r.take 11) = g at *
    by_cases h2 : 64 < g / 64 + (g % 64 + 1)
    · exact Or.inl ⟨h2, by rw [if_pos h2]⟩
    · rw [if_neg h2]
      refine Or.inr ⟨by omega, ?_⟩
      rw [hg, List.length_drop]
      by_cases h3 : r.length < 11 + (g % 64 + 1)
      · rw [if_pos (by omega), if_pos h3]
        exact ⟨0, 10, rfl, Nat.two_pow_pos _, Or.inl ⟨rfl, rfl, rfl⟩⟩
      · rw [if_neg (by omega), if_neg h3]
        have hl := numB_lt ((r.drop 11).take (g % 64 + 1))
        rw [List.length_take, List.length_drop, Nat.min_eq_left (by omega)] at hl
        refine ⟨_, 0, rfl, hl, Or.inr ⟨rfl, ?_⟩⟩
        generalize numB ((r.drop 11).take (g % 64 + 1)) * 2 ^ (64 - g / 64 - (g % 64 + 1)) = d
        cases h4 : holdsX L W d
        · refine Or.inr ⟨rfl, ?_⟩
          by_cases h5 : leadX d = g / 64 ∧ widX d = g % 64 + 1
          · exact Or.inr ⟨h5, by rw [if_neg (fun hh => hh.elim (fun h => by cases h) (fun h => h h5))]⟩
          · exact Or.inl ⟨h5, by rw [if_pos (Or.inr h5)]⟩
        · exact Or.inl ⟨rfl, by rw [if_pos (Or.inl rfl)]⟩

end Go.Proofs.YtfooggamdbdniaaDoor

/- Layer 3's reading in the band that there is. -/
namespace Go.Proofs.YtfooggamdbdniaaDoor
open Go.RowKit

/-- what a step of the decoding answers: a is where it began -/
def DecOut (D : Nat × Nat × Nat × Nat × Nat) (a : Nat) (e : Ending) : Prop :=
  ∃ (d : Nat) (nx : Int) (bl bw c : Nat), e = .returned (.tuple #[.int .u64 d, .int .i64 nx, .agg #[.int .i64 bl, .int .i64 bw], .int .u16 c]) ∧ c = D.2.2.2.2 ∧
    (c = 0 → d = D.1 ∧ nx = ((a + D.2.1 : Nat) : Int) ∧ bl = D.2.2.1 ∧ bw = D.2.2.2.1)

set_option maxRecDepth 100000 in
set_option maxHeartbeats 1000000 in
theorem decodeOld_any (A : Option Addr) (c : Nat) (l : List UInt8) (m a L X : Nat) (w : World) (hb : Bs w A l) (hs : soundB l (m : Int) = true) (hl : l.length ≤ 100000) (ha : a ≤ m) (hm : m ≤ 800000) (hLW : L + X ≤ 64) :
    Calls Tryd.prog 38 #[.agg #[.slice A l.length c, .int .i64 m], .int .i64 a, .agg #[.int .i64 L, .int .i64 X]] w fun e w' => DecOut (oldD L X ((bitl l m).drop a)) a e ∧ Below w.heap.size w w' := by
  obtain ⟨g1, g2, hG, hg1, hg2, hc, hok⟩ := old_facts (L := L) (W := X) hs ha hLW
  obtain ⟨D, hD⟩ : ∃ D, D = oldD L X ((bitl l m).drop a) := ⟨_, rfl⟩
  rw [← hD] at hc hok ⊢
  clear hD
  obtain ⟨d0, d1, d2, t0, z0⟩ := three_at w #[.slice A l.length c, .int .i64 m] #[.int .i64 L, .int .i64 X] #[.int .i64 0, .int .i64 0] 29 50 50
  have hsh := shl_lt hg1 hLW
  obtain ⟨s0, hs0⟩ : ∃ s0 : Nat, s0 = 64 - L - X := ⟨_, rfl⟩
  rw [← hs0] at hsh hok
  have hs0' : (64 : Int) - L - X = s0 := by omega
  have j4 : min s0 64 = s0 := by omega
  obtain ⟨dd, hdd⟩ : ∃ dd : Nat, dd = g1 * 2 ^ s0 := ⟨_, rfl⟩
  rw [← hdd] at hsh hok
  have f1 : IntKind.u64.wrap ((g1 : Int) * 2 ^ s0) = (dd : Int) := by
    have e : ((g1 : Int) * 2 ^ s0) = (dd : Int) := by rw [hdd]; simp
    rw [e, IntKind.wrap_u64]; omega
  have f2 : IntKind.i64.wrap ((a : Int) + X) = (a : Int) + X := by rw [IntKind.wrap_i64]; omega
  go_enter Tryd.func38, Tryd.ntmps38
  go_wp2_with fail
  generalize (((w.alloc (.cells #[.slice A l.length c, .int .i64 m] 29)).alloc (.cells #[.int .i64 L, .int .i64 X] 50)).alloc (.cells #[.int .i64 0, .int .i64 0] 50)) = W0 at *
  have h := get_any A c l m a X W0 (hb.below t0) (by omega) (by omega) (by omega) (by omega)
  rw [hG] at h
  have HG := Lib.hid h
  have HS0' := Lib.hid hs0'
  have Hok := Lib.hid hok
  have Hc := Lib.hid hc
  clear h hG hs0' hok hc hdd hs0 hs
  refine HG.out.mono ?_
  rintro e w1 ⟨rfl, b1⟩
  have t1 := on1 t0 b1
  have HL := Lib.hid (d1.below b1 d1.lt)
  have HR := Lib.hid (d2.below b1 d2.lt)
  have Z1 : w.heap.size + 3 ≤ w1.heap.size := by have := b1.size; omega
  clear HG b1 d0 d1 d2 t0 z0 hb
  obtain ⟨dq0, dq1⟩ := HL.out.duo.1
  obtain ⟨⟨r0, r1⟩, r2, r3⟩ := HR.out.duo
  have dq : w1.cell? ⟨w.heap.size + 1, 0, none⟩ = some (.int .i64 L) ∧ w1.cell? ⟨w.heap.size + 1, 1, none⟩ = some (.int .i64 X) := ⟨dq0, dq1⟩
  have ndr : ∀ (W : World) (a : Addr), W.drew.cell? a = W.cell? a := fun _ _ => rfl
  have nf1 := fun (W : World) (i j : Nat) (u : Value) => World.cell?_setCell_far W ⟨w.heap.size + 1 + 1, i, none⟩ ⟨w.heap.size + 1, j, none⟩ u (by simp)
  have H14 : Hid (∀ w4, Below (w1.drew).heap.size (w1.drew) w4 → Below w1.heap.size w1 w4) := Lib.hid fun w4 h => (Below.refl _ _).drew.trans h
  obtain ⟨cc, hcc⟩ : ∃ cc : Nat, cc = (if g2 = 0 ∧ g1 = 0 then 30 else g2) := ⟨_, rfl⟩
  have c3 : (((g2 : Int) == 0) = true ∧ ((g1 : Int) == 0) = true ∧ cc = 30) ∨ (((g2 : Int) == 0) = true ∧ ((g1 : Int) == 0) = false ∧ cc = g2) ∨ (((g2 : Int) == 0) = false ∧ cc = g2) := by
    by_cases h2 : g2 = 0
    · by_cases h1 : g1 = 0
      · exact Or.inl ⟨by rw [h2]; rfl, by rw [h1]; rfl, by rw [hcc, if_pos ⟨h2, h1⟩]⟩
      · exact Or.inr (Or.inl ⟨by rw [h2]; rfl, beq_eq_false_iff_ne.2 (by omega), by rw [hcc, if_neg (fun h => h1 h.2)]⟩)
    · exact Or.inr (Or.inr ⟨beq_eq_false_iff_ne.2 (by omega), by rw [hcc, if_neg (fun h => h2 h.1)]⟩)
  have Hcc := Lib.hid hcc
  clear hcc
  rcases c3 with ⟨k1, k2, k3⟩ | ⟨k1, k2, k3⟩ | ⟨k1, k3⟩
  all_goals
    have K3 := Lib.hid k3
    clear k3
    go_wp2_with fail
    go_region_held3 (fun w' => w'.cell? ⟨w.heap.size + 1, 0, none⟩ = some (.int .i64 L) ∧ w'.cell? ⟨w.heap.size + 1, 1, none⟩ = some (.int .i64 X)) (first | with_reducible exact dq | with_reducible exact rr | (simp only [ndr]; with_reducible exact dq) | (simp only [nf1]; with_reducible exact rr) | (simp only [ndr, nf1]; with_reducible exact rr))
      ((go_at_call 19; refine (behind_any L X _ (by omega) (by omega)).mono ?_; rintro e w4 ⟨rfl, b4⟩; have b14 := H14.out w4 b4; have HL4 := Lib.hid (HL.out.below b14 HL.out.lt); have HR4 := Lib.hid (HR.out.below b14 HR.out.lt); have rr := HL4.out.duo.1; obtain ⟨⟨y0, y1⟩, x0, x1⟩ := HR4.out.duo; rw [HS0'.out]))
    go_wp2_with fail
  all_goals
    have FR : Blk _ (w.heap.size + 1 + 1) 50 #[.int .i64 L, .int .i64 X] := HR4.out.set2 (.int .i64 L) (.int .i64 X)
    obtain ⟨⟨v0, v1⟩, -⟩ := FR.duo
    have TF := ((on1 t1 b14).setCell (p := ⟨w.heap.size + 1 + 1, 0, none⟩) (by simp; omega) (.int .i64 L)).setCell (p := ⟨w.heap.size + 1 + 1, 1, none⟩) (by simp; omega) (.int .i64 X)
    have HF : Hid (cc = 0 → dd = D.1 ∧ (a : Int) + X = ((a + D.2.1 : Nat) : Int) ∧ L = D.2.2.1 ∧ X = D.2.2.2.1) := Lib.hid fun h => by
      obtain ⟨e1, e2, e3, e4⟩ := Hok.out (by rw [Hc.out, ← Hcc.out]; exact h)
      exact ⟨e1, by rw [e2]; simp, e3.symm, e4.symm⟩
  · skip
    refine bodyPost_ret (v := .tuple #[.int .u64 dd, .int .i64 ((a : Int) + X), .agg #[.int .i64 L, .int .i64 X], .int .u16 30]) (by simp [results, Tryd.results38, go_sem, v0, v1]) rfl ⟨⟨dd, (a : Int) + X, L, X, cc, by rw [K3.out]; rfl, Hcc.out.trans Hc.out.symm, HF.out⟩, TF⟩
  · skip
    refine bodyPost_ret (v := .tuple #[.int .u64 dd, .int .i64 ((a : Int) + X), .agg #[.int .i64 L, .int .i64 X], .int .u16 g2]) (by simp [results, Tryd.results38, go_sem, v0, v1]) rfl ⟨⟨dd, (a : Int) + X, L, X, cc, by rw [K3.out], Hcc.out.trans Hc.out.symm, HF.out⟩, TF⟩
  · skip
    refine bodyPost_ret (v := .tuple #[.int .u64 dd, .int .i64 ((a : Int) + X), .agg #[.int .i64 L, .int .i64 X], .int .u16 g2]) (by simp [results, Tryd.results38, go_sem, v0, v1]) rfl ⟨⟨dd, (a : Int) + X, L, X, cc, by rw [K3.out], Hcc.out.trans Hc.out.symm, HF.out⟩, TF⟩

end Go.Proofs.YtfooggamdbdniaaDoor
