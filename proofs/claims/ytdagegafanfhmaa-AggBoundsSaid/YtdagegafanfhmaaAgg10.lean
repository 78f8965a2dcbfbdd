/- math/bits.Div64: a quotient of one word, of two words. -/
import Derived.Test.YtdagegafanfhmaaAgg6
import Derived.Test.YtdagegafanfhmaaMathD
import Derived.Test.YtdagegafanfhmaaShelfA
import Derived.Lib.BitFns
import Derived.Deep.CutBlock
namespace Go.Proofs.Ytdagegafanfhmaa
open Go.RowKit

theorem bitLen_log (y : Nat) (h0 : y ≠ 0) (hy : y < 18446744073709551616) : Lib.bitLen y = Nat.log2 y + 1 := by
  have h1 := Nat.log2_self_le h0
  have h2 := @Nat.lt_log2_self y
  rw [Lib.bitLen_shift (Nat.log2 y) y h1 hy]
  have h3 : y / 2 ^ Nat.log2 y = 1 := by
    have hp := Nat.two_pow_pos (Nat.log2 y)
    rw [Nat.pow_succ] at h2
    have a : 1 ≤ y / 2 ^ Nat.log2 y := by rw [Nat.le_div_iff_mul_le hp]; omega
    have b : y / 2 ^ Nat.log2 y < 2 := by rw [Nat.div_lt_iff_lt_mul hp]; omega
    omega
  rw [h3]
  rfl
theorem lz64_any (y : Nat) (w : World) (h0 : y ≠ 0) (hy : y < 18446744073709551616) :
    Calls Try.prog 56 #[.int .u64 y] w fun e w' => ∃ s : Nat, e = .returned (.int .i64 s) ∧ w = w' ∧ s ≤ 63 ∧ Hid (9223372036854775808 ≤ y * 2 ^ s ∧ y * 2 ^ s < 18446744073709551616) := by
  refine (Try.bits_LeadingZeros64 (y : Int) w (by omega) (by omega)).mono ?_
  rintro e w' ⟨rfl, rfl⟩
  have h1 := Nat.log2_self_le h0
  have h2 := @Nat.lt_log2_self y
  have h3 : Nat.log2 y < 64 := (Nat.log2_lt h0).2 hy
  refine ⟨63 - Nat.log2 y, ?_, rfl, by omega, Lib.hid ?_⟩
  · rw [Int.toNat_natCast, bitLen_log y h0 hy]
    refine ret_int ?_
    omega
  · have e : 2 ^ Nat.log2 y * 2 ^ (63 - Nat.log2 y) = 9223372036854775808 := by
      rw [← Nat.pow_add, show Nat.log2 y + (63 - Nat.log2 y) = 63 by omega]
    have a := Nat.mul_le_mul_right (2 ^ (63 - Nat.log2 y)) h1
    have b : y * 2 ^ (63 - Nat.log2 y) < 2 ^ (Nat.log2 y + 1) * 2 ^ (63 - Nat.log2 y) := (Nat.mul_lt_mul_right (Nat.two_pow_pos _)).2 h2
    rw [Nat.pow_succ, Nat.mul_comm (2 ^ Nat.log2 y) 2, Nat.mul_assoc, e] at b
    omega

theorem wrap_sum {x : Int} {n : Nat} (h : x % 18446744073709551616 = n) : IntKind.u64.wrap x = (n : Int) := by rw [IntKind.wrap_u64]; exact h
theorem wrap_prod (a b : Nat) (h : a * b < 18446744073709551616) : IntKind.u64.wrap ((a : Int) * b) = ((a * b : Nat) : Int) := by
  rw [← Int.natCast_mul, wrap_big _ h]
theorem mask32 (L : Nat) (hL : L < 18446744073709551616) : bits .and .u64 (L : Int) 4294967295 = ((L % 4294967296 : Nat) : Int) := by
  have h := bits_mask .u64 64 (by decide) (fun n h0 h1 => by have := wrap_big n.toNat (by omega); rwa [Int.toNat_of_nonneg h0] at this) 32 (by decide) (L : Int) (by omega) (by omega)
  rw [show ((2 : Int) ^ 32 - 1) = 4294967295 from rfl] at h
  rw [h]; omega

set_option maxRecDepth 100000 in
set_option maxHeartbeats 4000000 in
theorem div64_E (hi lo y : Nat) (w : World) (h0 : hi ≠ 0) (hlt : hi < y) (hlo : lo < 18446744073709551616) (hy : y < 18446744073709551616) :
    Calls Try.prog 52 #[.int .u64 hi, .int .u64 lo, .int .u64 y] w fun e w' => ∃ q r : Nat, Hid (q = (hi * 18446744073709551616 + lo) / y) ∧ e = .returned (.tuple #[.int .u64 q, .int .u64 r]) ∧ Below w.heap.size w w' := by
  have hz : ((y : Int) == 0) = false := by simp; omega
  have hz2 : decide ((y : Int) ≤ hi) = false := by simp; omega
  have hz3 : (y == 0) = false := by simp; omega
  have hz4 : decide (y ≤ hi) = false := by simp; omega
  have hz5 : ((hi : Int) == 0) = false := by simp; omega
  have hz6 : (hi == 0) = false := by simp; omega
  go_enter Try.func52, Try.ntmps52
  go_wp2_with fail
  refine (lz64_any y w (by omega) hy).mono ?_
  rintro e w1 ⟨s, rfl, rfl, hs, HY⟩
  obtain ⟨Y, y1, y0, H, l1, U, L, u1, u0, eY, ey1, ey0, eH, el1, eU, eL, eu1, eu0, eYs, hy0, hy1, hy12, hH, hl1, hU, hL, hu1, hu0, eLs, hres⟩ := div_names hi lo y s h0 hlt hlo hs HY.out.1 HY.out.2
  have hYlt : Y < 18446744073709551616 := by rw [eY]; exact HY.out.2
  have f1 : IntKind.u64.wrap ((y : Int) * 2 ^ s) = (Y : Int) := by
    rw [eY, show ((y : Int) * 2 ^ s) = ((y * 2 ^ s : Nat) : Int) by rw [Int.natCast_mul, Int.natCast_pow]; rfl, wrap_big _ HY.out.2]
  have f2 : (Y : Int) / 4294967296 = (y1 : Int) := by omega
  have f3 : bits .and .u64 (Y : Int) 4294967295 = (y0 : Int) := by rw [ey0]; exact mask32 Y hYlt
  have f4 : IntKind.u64.wrap ((hi : Int) * 2 ^ s) = (H : Int) := by
    rw [show ((hi : Int) * 2 ^ s) = ((hi * 2 ^ s : Nat) : Int) by rw [Int.natCast_mul, Int.natCast_pow]; rfl, ← eH, wrap_big _ hH]
  have f5 : (lo : Int) / 2 ^ (64 - s) = (l1 : Int) := by rw [el1]; exact nat_shr _ _
  have f6 : bits .or .u64 (H : Int) (l1 : Int) = (U : Int) := by rw [eU]; exact or_big H l1 hH hl1
  have f7 : IntKind.u64.wrap ((lo : Int) * 2 ^ s) = (L : Int) := by
    rw [show ((lo : Int) * 2 ^ s) = ((lo * 2 ^ s : Nat) : Int) by rw [Int.natCast_mul, Int.natCast_pow]; rfl, eL]
    exact wrap_sum (by rw [Int.natCast_emod]; rfl)
  have f8 : (L : Int) / 4294967296 = (u1 : Int) := by omega
  have f9 : bits .and .u64 (L : Int) 4294967295 = (u0 : Int) := by rw [eu0]; exact mask32 L hL
  have hst := div_start (B := 4294967296) (U := U) (u := u1) (y1 := y1) (y0 := y0) (by omega) (by omega) hy0 hu1 (by omega)
  have hqU : U / y1 ≤ U := Nat.div_le_self _ _
  have hqy : U / y1 * y1 ≤ U := Nat.div_mul_le_self _ _
  obtain ⟨q, hq⟩ : ∃ q, q = U / y1 := ⟨_, rfl⟩
  obtain ⟨r, hr⟩ : ∃ r, r = U % y1 := ⟨_, rfl⟩
  have hry : r < y1 := by rw [hr]; exact Nat.mod_lt _ (by omega)
  have g0 : ¬ (y1 : Int) = 0 := by omega
  have g1 : (U : Int).tdiv (y1 : Int) = (q : Int) := by rw [hq]; rfl
  have g2 : (U : Int) / (y1 : Int) = (q : Int) := by rw [hq]; rfl
  rw [← hq, ← hr] at hst
  rw [← hq] at hqU hqy
  have g3 : IntKind.u64.wrap (q : Int) = (q : Int) := wrap_big _ (by omega)
  obtain ⟨p, hp⟩ : ∃ p, p = q * y1 := ⟨_, rfl⟩
  rw [← hp] at hqy
  have g4 : IntKind.u64.wrap ((q : Int) * (y1 : Int)) = (p : Int) := by rw [hp]; exact wrap_prod _ _ (by rw [← hp]; omega)
  have heq := hst.eq
  rw [← hp] at heq
  have g5 : IntKind.u64.wrap ((U : Int) - (p : Int)) = (r : Int) := wrap_sum (by omega)
  have g6 : IntKind.u64.wrap (U : Int) = (U : Int) := wrap_big _ (by omega)
  have D1 : Hid (DivI 4294967296 U u1 y1 y0 q r) := Lib.hid hst
  have HrB : Hid (r < 4294967296) := Lib.hid (by omega)
  have Hall : Hid (Y = y1 * 4294967296 + y0 ∧ y0 < 4294967296 ∧ 2147483648 ≤ y1 ∧ y1 < 4294967296 ∧ U < Y ∧ L < 18446744073709551616 ∧ u1 < 4294967296 ∧ u0 < 4294967296 ∧ Y < 18446744073709551616) := Lib.hid ⟨eYs, hy0, hy1, hy12, hU, hL, hu1, hu0, hYlt⟩
  have Hres := Lib.hid hres
  clear eY ey1 ey0 eH el1 eU eL eu1 eu0 eYs hy0 hy1 hy12 hH hl1 hU hL hu1 hu0 eLs hres hYlt hst hqU hqy hq hr hry hp heq HY h0 hlt hlo hy
  go_upto_block 0 with fail
  clear f1 f2 f3 f4 f5 f6 f7 f8 f9 g1 g2 g3 g4 g5 g6
  go_cut [15, 16] (fun a b wx => ∃ q r : Nat, a = .int .u64 q ∧ b = .int .u64 r ∧ Hid (q = (U * 4294967296 + u1) / (y1 * 4294967296 + y0)) ∧ w = wx)
  case first =>
    go_wp2_with fail
    go_loop [15, 16] (fun a b => ∃ q r : Nat, a = .int .u64 q ∧ b = .int .u64 r ∧ Hid (DivI 4294967296 U u1 y1 y0 q r) ∧ Hid (r < 4294967296)) (fun a _ => (intOf a).toNat)
    case atStart => exact ⟨q, r, rfl, rfl, D1, HrB⟩
    case round =>
      obtain ⟨q, r, rfl, rfl, D, HR⟩ := hrel
      obtain ⟨hYs, hy0, hy1, hy12, hU, hL, hu1, hu0, hYlt⟩ := Hall.out
      have hUlt : U < y1 * 4294967296 + y0 := by omega
      have hu : u1 < 4294967296 := by omega
      by_cases hc : 4294967296 ≤ q ∨ r * 4294967296 + u1 < q * y0
      · obtain ⟨hq1, D2⟩ := div_more D.out (by omega) hu hUlt hc
        have htop := D.out.top
        have hrlt := HR.out
        obtain ⟨q2, hq2⟩ : ∃ q2, q2 = q - 1 := ⟨_, rfl⟩
        obtain ⟨r2, hr2⟩ : ∃ r2, r2 = r + y1 := ⟨_, rfl⟩
        rw [← hq2, ← hr2] at D2
        have e1 : IntKind.u64.wrap ((q : Int) - 1) = (q2 : Int) := wrap_sum (by omega)
        have e2 : IntKind.u64.wrap ((r : Int) + (y1 : Int)) = (r2 : Int) := wrap_sum (by omega)
        have hdec : q2 < q := by omega
        have hqB : q2 ≤ 4294967296 := by omega
        have Hdec := Lib.hid hdec
        have HqB := Lib.hid hqB
        have HD2 := Lib.hid D2
        have Hu := Lib.hid hu
        by_cases hb : 4294967296 ≤ q
        · have c1 : decide ((4294967296 : Int) ≤ (q : Int)) = true := by simp; omega
          have c1' : decide (4294967296 ≤ q) = true := by simp; omega
          by_cases hr : 4294967296 ≤ r2
          · have c2 : decide ((4294967296 : Int) ≤ (r2 : Int)) = true := by simp; omega
            have c2' : decide (4294967296 ≤ r2) = true := by simp; omega
            have Hr := Lib.hid hr
            clear hYs hy0 hy1 hy12 hU hL hu1 hu0 hYlt hUlt hu hc hq1 D2 htop hrlt hq2 hr2 hdec hqB hb hr
            go_wp2_with fail
            go_meet
            exact ⟨q2, r2, rfl, rfl, Lib.hid (div_stop HD2.out (by have := Hall.out; omega) (by have := Hall.out; omega) HqB.out Hr.out), rfl⟩
          · have c2 : decide ((4294967296 : Int) ≤ (r2 : Int)) = false := by simp; omega
            have c2' : decide (4294967296 ≤ r2) = false := by simp; omega
            have Hr : Hid (r2 < 4294967296) := Lib.hid (by omega)
            clear hYs hy0 hy1 hy12 hU hL hu1 hu0 hYlt hUlt hu hc hq1 D2 htop hrlt hq2 hr2 hdec hqB hb hr
            go_wp2_with fail
            go_round
            case rel => exact ⟨q2, r2, rfl, rfl, HD2, Hr⟩
            case measure => have := Hdec.out; simp [intOf]; omega
        · have c1 : decide ((4294967296 : Int) ≤ (q : Int)) = false := by simp; omega
          have c1' : decide (4294967296 ≤ q) = false := by simp; omega
          have hPlt : q * y0 < 18446744073709551616 := Nat.lt_of_le_of_lt (Nat.mul_le_mul (show q ≤ 4294967295 by omega) (show y0 ≤ 4294967295 by omega)) (by decide)
          have e3 : IntKind.u64.wrap ((q : Int) * (y0 : Int)) = ((q * y0 : Nat) : Int) := wrap_prod _ _ hPlt
          have e4 : IntKind.u64.wrap (4294967296 * (r : Int)) = ((4294967296 * r : Nat) : Int) := wrap_sum (by omega)
          have e5 : IntKind.u64.wrap (((4294967296 * r : Nat) : Int) + (u1 : Int)) = ((4294967296 * r + u1 : Nat) : Int) := wrap_sum (by omega)
          have ht : 4294967296 * r + u1 < q * y0 := by omega
          generalize q * y0 = P at *
          generalize 4294967296 * r = R at *
          obtain ⟨T, hT⟩ : ∃ T, T = R + u1 := ⟨_, rfl⟩
          rw [← hT] at e5 ht
          have c3 : decide ((T : Int) < (P : Int)) = true := by simp; omega
          have c3' : decide (T < P) = true := by simp; omega
          by_cases hr : 4294967296 ≤ r2
          · have c2 : decide ((4294967296 : Int) ≤ (r2 : Int)) = true := by simp; omega
            have c2' : decide (4294967296 ≤ r2) = true := by simp; omega
            have Hr := Lib.hid hr
            clear hYs hy0 hy1 hy12 hU hL hu1 hu0 hYlt hUlt hu hc hq1 D2 htop hrlt hq2 hr2 hdec hqB hb hr hPlt ht hT
            go_wp2_with fail
            go_meet
            exact ⟨q2, r2, rfl, rfl, Lib.hid (div_stop HD2.out (by have := Hall.out; omega) (by have := Hall.out; omega) HqB.out Hr.out), rfl⟩
          · have c2 : decide ((4294967296 : Int) ≤ (r2 : Int)) = false := by simp; omega
            have c2' : decide (4294967296 ≤ r2) = false := by simp; omega
            have Hr : Hid (r2 < 4294967296) := Lib.hid (by omega)
            clear hYs hy0 hy1 hy12 hU hL hu1 hu0 hYlt hUlt hu hc hq1 D2 htop hrlt hq2 hr2 hdec hqB hb hr hPlt ht hT
            go_wp2_with fail
            go_round
            case rel => exact ⟨q2, r2, rfl, rfl, HD2, Hr⟩
            case measure => have := Hdec.out; simp [intOf]; omega
      · have hend := div_end D.out (by omega) (show q * y0 ≤ r * 4294967296 + u1 by omega)
        have Hend := Lib.hid hend
        have hb : ¬ 4294967296 ≤ q := by omega
        have hrlt := HR.out
        have c1 : decide ((4294967296 : Int) ≤ (q : Int)) = false := by simp; omega
        have c1' : decide (4294967296 ≤ q) = false := by simp; omega
        have hPlt : q * y0 < 18446744073709551616 := Nat.lt_of_le_of_lt (Nat.mul_le_mul (show q ≤ 4294967295 by omega) (show y0 ≤ 4294967295 by omega)) (by decide)
        have e3 : IntKind.u64.wrap ((q : Int) * (y0 : Int)) = ((q * y0 : Nat) : Int) := wrap_prod _ _ hPlt
        have e4 : IntKind.u64.wrap (4294967296 * (r : Int)) = ((4294967296 * r : Nat) : Int) := wrap_sum (by omega)
        have e5 : IntKind.u64.wrap (((4294967296 * r : Nat) : Int) + (u1 : Int)) = ((4294967296 * r + u1 : Nat) : Int) := wrap_sum (by omega)
        have ht : ¬ 4294967296 * r + u1 < q * y0 := by omega
        clear hend
        generalize q * y0 = P at *
        generalize 4294967296 * r = R at *
        obtain ⟨T, hT⟩ : ∃ T, T = R + u1 := ⟨_, rfl⟩
        rw [← hT] at e5 ht
        have c3 : decide ((T : Int) < (P : Int)) = false := by simp; omega
        have c3' : decide (T < P) = false := by simp; omega
        clear hYs hy0 hy1 hy12 hU hL hu1 hu0 hYlt hUlt hu hc hb hrlt hPlt ht hT
        go_wp2_with fail
        go_meet
        exact ⟨q, r, rfl, rfl, Hend, rfl⟩
  case rest =>
    clear D1 HrB
    obtain ⟨q1, r1, rfl, rfl, HQ, rfl⟩ := hcut
    obtain ⟨hYs, hy0, hy1, hy12, hU, hL, hu1, hu0, hYlt⟩ := Hall.out
    have hQ := HQ.out
    rw [← hYs] at hQ
    obtain ⟨hqB, hqle, hrem, hremlt⟩ := div_digit (B := 4294967296) hu1 hU hQ
    obtain ⟨X1, hX1⟩ : ∃ X, X = U * 4294967296 % 18446744073709551616 := ⟨_, rfl⟩
    obtain ⟨X2, hX2⟩ : ∃ X, X = (X1 + u1) % 18446744073709551616 := ⟨_, rfl⟩
    obtain ⟨X3, hX3⟩ : ∃ X, X = q1 * Y % 18446744073709551616 := ⟨_, rfl⟩
    obtain ⟨V, hV⟩ : ∃ V, V = U * 4294967296 + u1 - q1 * Y := ⟨_, rfl⟩
    have k1 : IntKind.u64.wrap ((U : Int) * 4294967296) = (X1 : Int) := wrap_sum (by omega)
    have k2 : IntKind.u64.wrap ((X1 : Int) + (u1 : Int)) = (X2 : Int) := wrap_sum (by omega)
    have k3 : IntKind.u64.wrap ((q1 : Int) * (Y : Int)) = (X3 : Int) := by
      rw [← Int.natCast_mul]; exact wrap_sum (by omega)
    rw [← hV] at hrem
    rw [← hrem] at hremlt
    have k4 : IntKind.u64.wrap ((X2 : Int) - (X3 : Int)) = (V : Int) := wrap_sum (by omega)
    have hst := div_start (B := 4294967296) (U := V) (u := u0) (y1 := y1) (y0 := y0) (by omega) (by omega) hy0 hu0 (by omega)
    have hqU : V / y1 ≤ V := Nat.div_le_self _ _
    have hqy : V / y1 * y1 ≤ V := Nat.div_mul_le_self _ _
    obtain ⟨q, hq⟩ : ∃ q, q = V / y1 := ⟨_, rfl⟩
    obtain ⟨r, hr⟩ : ∃ r, r = V % y1 := ⟨_, rfl⟩
    have hry : r < y1 := by rw [hr]; exact Nat.mod_lt _ (by omega)
    have g1 : (V : Int).tdiv (y1 : Int) = (q : Int) := by rw [hq]; rfl
    have g2 : (V : Int) / (y1 : Int) = (q : Int) := by rw [hq]; rfl
    rw [← hq, ← hr] at hst
    rw [← hq] at hqU hqy
    have g3 : IntKind.u64.wrap (q : Int) = (q : Int) := wrap_big _ (by omega)
    obtain ⟨p, hp⟩ : ∃ p, p = q * y1 := ⟨_, rfl⟩
    rw [← hp] at hqy
    have g4 : IntKind.u64.wrap ((q : Int) * (y1 : Int)) = (p : Int) := by rw [hp]; exact wrap_prod _ _ (by rw [← hp]; omega)
    have heq := hst.eq
    rw [← hp] at heq
    have g5 : IntKind.u64.wrap ((V : Int) - (p : Int)) = (r : Int) := wrap_sum (by omega)
    have D1 : Hid (DivI 4294967296 V u0 y1 y0 q r) := Lib.hid hst
    have HrB : Hid (r < 4294967296) := Lib.hid (by omega)
    have HV : Hid (V < Y) := Lib.hid hremlt
    have HQ1 : Hid (q1 < 4294967296) := Lib.hid hqB
    have HVr := Lib.hid hrem
    clear hYs hy0 hy1 hy12 hU hL hu1 hu0 hYlt hQ hqB hqle hrem hremlt hX1 hX2 hX3 hV hst hqU hqy hq hr hry hp heq
    go_upto_block 2 with fail
    clear k1 k2 k3 k4 g1 g2 g3 g4 g5
    go_cut [18, 16] (fun a b wx => ∃ q r : Nat, a = .int .u64 q ∧ b = .int .u64 r ∧ Hid (q = (V * 4294967296 + u0) / (y1 * 4294967296 + y0)) ∧ w = wx)
    case first =>
      go_wp2_with fail
      go_loop [18, 16] (fun a b => ∃ q r : Nat, a = .int .u64 q ∧ b = .int .u64 r ∧ Hid (DivI 4294967296 V u0 y1 y0 q r) ∧ Hid (r < 4294967296)) (fun a _ => (intOf a).toNat)
      case atStart => exact ⟨q, r, rfl, rfl, D1, HrB⟩
      case round =>
        obtain ⟨q, r, rfl, rfl, D, HR⟩ := hrel
        obtain ⟨hYs, hy0, hy1, hy12, hU, hL, hu1, hu0, hYlt⟩ := Hall.out
        have hUlt : V < y1 * 4294967296 + y0 := by have := HV.out; omega
        have hu : u0 < 4294967296 := by omega
        by_cases hc : 4294967296 ≤ q ∨ r * 4294967296 + u0 < q * y0
        · obtain ⟨hq1, D2⟩ := div_more D.out (by omega) hu hUlt hc
          have htop := D.out.top
          have hrlt := HR.out
          obtain ⟨q2, hq2⟩ : ∃ q2, q2 = q - 1 := ⟨_, rfl⟩
          obtain ⟨r2, hr2⟩ : ∃ r2, r2 = r + y1 := ⟨_, rfl⟩
          rw [← hq2, ← hr2] at D2
          have e1 : IntKind.u64.wrap ((q : Int) - 1) = (q2 : Int) := wrap_sum (by omega)
          have e2 : IntKind.u64.wrap ((r : Int) + (y1 : Int)) = (r2 : Int) := wrap_sum (by omega)
          have hdec : q2 < q := by omega
          have hqB : q2 ≤ 4294967296 := by omega
          have Hdec := Lib.hid hdec
          have HqB := Lib.hid hqB
          have HD2 := Lib.hid D2
          have Hu := Lib.hid hu
          by_cases hb : 4294967296 ≤ q
          · have c1 : decide ((4294967296 : Int) ≤ (q : Int)) = true := by simp; omega
            have c1' : decide (4294967296 ≤ q) = true := by simp; omega
            by_cases hr : 4294967296 ≤ r2
            · have c2 : decide ((4294967296 : Int) ≤ (r2 : Int)) = true := by simp; omega
              have c2' : decide (4294967296 ≤ r2) = true := by simp; omega
              have Hr := Lib.hid hr
              clear hYs hy0 hy1 hy12 hU hL hu1 hu0 hYlt hUlt hu hc hq1 D2 htop hrlt hq2 hr2 hdec hqB hb hr
              go_wp2_with fail
              go_meet
              exact ⟨q2, r2, rfl, rfl, Lib.hid (div_stop HD2.out (by have := Hall.out; omega) (by have := Hall.out; omega) HqB.out Hr.out), rfl⟩
            · have c2 : decide ((4294967296 : Int) ≤ (r2 : Int)) = false := by simp; omega
              have c2' : decide (4294967296 ≤ r2) = false := by simp; omega
              have Hr : Hid (r2 < 4294967296) := Lib.hid (by omega)
              clear hYs hy0 hy1 hy12 hU hL hu1 hu0 hYlt hUlt hu hc hq1 D2 htop hrlt hq2 hr2 hdec hqB hb hr
              go_wp2_with fail
              go_round
              case rel => exact ⟨q2, r2, rfl, rfl, HD2, Hr⟩
              case measure => have := Hdec.out; simp [intOf]; omega
          · have c1 : decide ((4294967296 : Int) ≤ (q : Int)) = false := by simp; omega
            have c1' : decide (4294967296 ≤ q) = false := by simp; omega
            have hPlt : q * y0 < 18446744073709551616 := Nat.lt_of_le_of_lt (Nat.mul_le_mul (show q ≤ 4294967295 by omega) (show y0 ≤ 4294967295 by omega)) (by decide)
            have e3 : IntKind.u64.wrap ((q : Int) * (y0 : Int)) = ((q * y0 : Nat) : Int) := wrap_prod _ _ hPlt
            have e4 : IntKind.u64.wrap (4294967296 * (r : Int)) = ((4294967296 * r : Nat) : Int) := wrap_sum (by omega)
            have e5 : IntKind.u64.wrap (((4294967296 * r : Nat) : Int) + (u0 : Int)) = ((4294967296 * r + u0 : Nat) : Int) := wrap_sum (by omega)
            have ht : 4294967296 * r + u0 < q * y0 := by omega
            generalize q * y0 = P at *
            generalize 4294967296 * r = R at *
            obtain ⟨T, hT⟩ : ∃ T, T = R + u0 := ⟨_, rfl⟩
            rw [← hT] at e5 ht
            have c3 : decide ((T : Int) < (P : Int)) = true := by simp; omega
            have c3' : decide (T < P) = true := by simp; omega
            by_cases hr : 4294967296 ≤ r2
            · have c2 : decide ((4294967296 : Int) ≤ (r2 : Int)) = true := by simp; omega
              have c2' : decide (4294967296 ≤ r2) = true := by simp; omega
              have Hr := Lib.hid hr
              clear hYs hy0 hy1 hy12 hU hL hu1 hu0 hYlt hUlt hu hc hq1 D2 htop hrlt hq2 hr2 hdec hqB hb hr hPlt ht hT
              go_wp2_with fail
              go_meet
              exact ⟨q2, r2, rfl, rfl, Lib.hid (div_stop HD2.out (by have := Hall.out; omega) (by have := Hall.out; omega) HqB.out Hr.out), rfl⟩
            · have c2 : decide ((4294967296 : Int) ≤ (r2 : Int)) = false := by simp; omega
              have c2' : decide (4294967296 ≤ r2) = false := by simp; omega
              have Hr : Hid (r2 < 4294967296) := Lib.hid (by omega)
              clear hYs hy0 hy1 hy12 hU hL hu1 hu0 hYlt hUlt hu hc hq1 D2 htop hrlt hq2 hr2 hdec hqB hb hr hPlt ht hT
              go_wp2_with fail
              go_round
              case rel => exact ⟨q2, r2, rfl, rfl, HD2, Hr⟩
              case measure => have := Hdec.out; simp [intOf]; omega
        · have hend := div_end D.out (by omega) (show q * y0 ≤ r * 4294967296 + u0 by omega)
          have Hend := Lib.hid hend
          have hb : ¬ 4294967296 ≤ q := by omega
          have hrlt := HR.out
          have c1 : decide ((4294967296 : Int) ≤ (q : Int)) = false := by simp; omega
          have c1' : decide (4294967296 ≤ q) = false := by simp; omega
          have hPlt : q * y0 < 18446744073709551616 := Nat.lt_of_le_of_lt (Nat.mul_le_mul (show q ≤ 4294967295 by omega) (show y0 ≤ 4294967295 by omega)) (by decide)
          have e3 : IntKind.u64.wrap ((q : Int) * (y0 : Int)) = ((q * y0 : Nat) : Int) := wrap_prod _ _ hPlt
          have e4 : IntKind.u64.wrap (4294967296 * (r : Int)) = ((4294967296 * r : Nat) : Int) := wrap_sum (by omega)
          have e5 : IntKind.u64.wrap (((4294967296 * r : Nat) : Int) + (u0 : Int)) = ((4294967296 * r + u0 : Nat) : Int) := wrap_sum (by omega)
          have ht : ¬ 4294967296 * r + u0 < q * y0 := by omega
          clear hend
          generalize q * y0 = P at *
          generalize 4294967296 * r = R at *
          obtain ⟨T, hT⟩ : ∃ T, T = R + u0 := ⟨_, rfl⟩
          rw [← hT] at e5 ht
          have c3 : decide ((T : Int) < (P : Int)) = false := by simp; omega
          have c3' : decide (T < P) = false := by simp; omega
          clear hYs hy0 hy1 hy12 hU hL hu1 hu0 hYlt hUlt hu hc hb hrlt hPlt ht hT
          go_wp2_with fail
          go_meet
          exact ⟨q, r, rfl, rfl, Hend, rfl⟩
    case rest =>
      clear D1 HrB
      obtain ⟨q2, r2, rfl, rfl, HQ2, rfl⟩ := hcut
      obtain ⟨hYs, hy0, hy1, hy12, hU, hL, hu1, hu0, hYlt⟩ := Hall.out
      have hQ2 := HQ2.out
      rw [← hYs] at hQ2
      obtain ⟨hqB, hqle, hrem, hremlt⟩ := div_digit (B := 4294967296) hu0 HV.out hQ2
      have hq1 := HQ1.out
      have hQ := HQ.out
      rw [← hYs] at hQ
      have htwo := div_two 4294967296 U u1 u0 Y (by omega)
      rw [← HVr.out, ← hQ, ← hQ2, Hres.out] at htwo
      obtain ⟨X1, hX1⟩ : ∃ X, X = V * 4294967296 % 18446744073709551616 := ⟨_, rfl⟩
      obtain ⟨X2, hX2⟩ : ∃ X, X = (X1 + u0) % 18446744073709551616 := ⟨_, rfl⟩
      obtain ⟨X3, hX3⟩ : ∃ X, X = q2 * Y % 18446744073709551616 := ⟨_, rfl⟩
      obtain ⟨X4, hX4⟩ : ∃ X, X = V * 4294967296 + u0 - q2 * Y := ⟨_, rfl⟩
      rw [← hX4] at hrem
      rw [← hrem] at hremlt
      have k0 : IntKind.u64.wrap ((q1 : Int) * 4294967296) = ((q1 * 4294967296 : Nat) : Int) := wrap_sum (by omega)
      obtain ⟨Z, hZ⟩ : ∃ Z, Z = q1 * 4294967296 := ⟨_, rfl⟩
      rw [← hZ] at k0
      have k01 : IntKind.u64.wrap ((Z : Int) + (q2 : Int)) = ((Z + q2 : Nat) : Int) := wrap_sum (by omega)
      have k1 : IntKind.u64.wrap ((V : Int) * 4294967296) = (X1 : Int) := wrap_sum (by omega)
      have k2 : IntKind.u64.wrap ((X1 : Int) + (u0 : Int)) = (X2 : Int) := wrap_sum (by omega)
      have k3 : IntKind.u64.wrap ((q2 : Int) * (Y : Int)) = (X3 : Int) := by
        rw [← Int.natCast_mul]; exact wrap_sum (by omega)
      have k4 : IntKind.u64.wrap ((X2 : Int) - (X3 : Int)) = (X4 : Int) := wrap_sum (by omega)
      have k5 : (X4 : Int) / 2 ^ s = ((X4 / 2 ^ s : Nat) : Int) := nat_shr _ _
      obtain ⟨F, hF⟩ : ∃ F, F = Z + q2 := ⟨_, rfl⟩
      obtain ⟨G, hG⟩ : ∃ G, G = X4 / 2 ^ s := ⟨_, rfl⟩
      rw [← hF] at k01
      rw [← hG] at k5
      have HF : Hid (F = (hi * 18446744073709551616 + lo) / y) := Lib.hid (by rw [hF, hZ]; exact htwo)
      clear hYs hy0 hy1 hy12 hU hL hu1 hu0 hYlt hQ2 hqB hqle hrem hremlt hq1 hQ htwo hX1 hX2 hX3 hX4 hZ hF hG
      go_wp2_with fail
      exact bodyPost_ret (v := .tuple #[.int .u64 F, .int .u64 G]) (by simp [results, Try.results52, go_sem]) rfl ⟨F, G, HF, rfl, Below.refl _ _⟩

end Go.Proofs.Ytdagegafanfhmaa
