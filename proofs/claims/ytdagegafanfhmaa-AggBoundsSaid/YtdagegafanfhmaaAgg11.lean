/- Mean of anything, and the document's own. -/
import Derived.Test.YtdagegafanfhmaaAgg10
namespace Go.Proofs.Ytdagegafanfhmaa
open Go.RowKit

def meanOf (a : AggD) : Nat × Bool := if a.n = 0 ∨ a.n ≤ a.hi then (0, false) else ((a.hi * 18446744073709551616 + a.lo) / a.n, true)

def MeanP (a : AggD) (w : World) (e : Ending) (w' : World) : Prop := ∃ (x : Nat) (b : Bool), Hid (meanOf a = (x, b)) ∧ e = .returned (.tuple #[.int .u64 x, .bool b]) ∧ Below w.heap.size w w'

theorem div64_any (hi lo y : Nat) (w : World) (hlt : hi < y) (hlo : lo < 18446744073709551616) (hy : y < 18446744073709551616) :
    Calls Try.prog 52 #[.int .u64 hi, .int .u64 lo, .int .u64 y] w fun e w' => ∃ q r : Nat, Hid (q = (hi * 18446744073709551616 + lo) / y) ∧ e = .returned (.tuple #[.int .u64 q, .int .u64 r]) ∧ Below w.heap.size w w' := by
  rcases Nat.eq_zero_or_pos hi with rfl | h0
  · refine (div64_small lo y w (by omega) hlo hy).mono ?_
    rintro e w' ⟨rfl, hb⟩
    exact ⟨lo / y, lo % y, Lib.hid (by rw [Nat.zero_mul, Nat.zero_add]), rfl, hb⟩
  · exact div64_E hi lo y w (by omega) hlt hlo hy

set_option maxRecDepth 100000 in
theorem mean_any (n : Nat) (ft : Int) (fv : Nat) (lt : Int) (lv mn mx hi lo : Nat) (w : World) (hn2 : n < 18446744073709551616) (hhi : hi < 18446744073709551616) (hl : lo < 18446744073709551616) :
    Calls Try.prog 36 #[.agg #[.int .u64 n, .int .i64 ft, .int .u64 fv, .int .i64 lt, .int .u64 lv, .int .u64 mn, .int .u64 mx, .int .u64 hi, .int .u64 lo]] w (MeanP ⟨n, ft, fv, lt, lv, mn, mx, hi, lo⟩ w) := by
  by_cases h0 : n = 0
  · have hz : ((n : Int) == 0) = true := by simp; omega
    have hz3 : (n == 0) = true := by simp; omega
    have Hr : Hid (meanOf ⟨n, ft, fv, lt, lv, mn, mx, hi, lo⟩ = (0, false)) := Lib.hid (by unfold meanOf; rw [if_pos (.inl h0)])
    clear h0
    go_enter Try.func36, Try.ntmps36
    go_wp2_with fail
    exact bodyPost_ret (v := .tuple #[.int .u64 0, .bool false]) (by simp [results, Try.results36, go_sem]) rfl ⟨0, false, Hr, rfl, below_alloc _ _⟩
  · have hz : ((n : Int) == 0) = false := by simp; omega
    have hz3 : (n == 0) = false := by simp; omega
    by_cases h1 : n ≤ hi
    · have hz2 : decide ((n : Int) ≤ hi) = true := by simp; omega
      have hz4 : decide (n ≤ hi) = true := by simp; omega
      have Hr : Hid (meanOf ⟨n, ft, fv, lt, lv, mn, mx, hi, lo⟩ = (0, false)) := Lib.hid (by unfold meanOf; rw [if_pos (.inr h1)])
      clear h0 h1
      go_enter Try.func36, Try.ntmps36
      go_wp2_with fail
      exact bodyPost_ret (v := .tuple #[.int .u64 0, .bool false]) (by simp [results, Try.results36, go_sem]) rfl ⟨0, false, Hr, rfl, below_alloc _ _⟩
    · have hz2 : decide ((n : Int) ≤ hi) = false := by simp; omega
      have hz4 : decide (n ≤ hi) = false := by simp; omega
      have Hr : Hid (meanOf ⟨n, ft, fv, lt, lv, mn, mx, hi, lo⟩ = ((hi * 18446744073709551616 + lo) / n, true)) := Lib.hid (by unfold meanOf; rw [if_neg (by simp only; omega)])
      have hlt : hi < n := by omega
      have Hlt := Lib.hid hlt
      clear h0 h1 hlt
      go_enter Try.func36, Try.ntmps36
      go_wp2_with (go_at_call 52; refine (div64_any hi lo n _ Hlt.out hl hn2).mono ?_; rintro e w1 ⟨q, r, Hq, rfl, hb1⟩)
      exact bodyPost_ret (v := .tuple #[.int .u64 q, .bool true]) (by simp [results, Try.results36, go_sem]) rfl ⟨q, true, Lib.hid (by rw [Hr.out, Hq.out]), rfl, go1 (w := w) hb1⟩

theorem and_one_u64 (x : Nat) (hx : x < 18446744073709551616) : bits .and .u64 (x : Int) 1 = ((x % 2 : Nat) : Int) := by
  have h := bits_mask .u64 64 (by decide) (fun n h0 h1 => by have := wrap_big n.toNat (by omega); rwa [Int.toNat_of_nonneg h0] at this) 1 (by decide) (x : Int) (by omega) (by omega)
  rw [show ((2 : Int) ^ 1 - 1) = 1 from rfl] at h
  rw [h]; omega

set_option maxRecDepth 100000 in
set_option maxHeartbeats 1000000 in
theorem refMean_any (n : Nat) (ft : Int) (fv : Nat) (lt : Int) (lv mn mx hi lo : Nat) (w : World) (hn2 : n < 18446744073709551616) (hhi : hi < 18446744073709551616) (hl : lo < 18446744073709551616) :
    Calls Try.prog 37 #[.agg #[.int .u64 n, .int .i64 ft, .int .u64 fv, .int .i64 lt, .int .u64 lv, .int .u64 mn, .int .u64 mx, .int .u64 hi, .int .u64 lo]] w (MeanP ⟨n, ft, fv, lt, lv, mn, mx, hi, lo⟩ w) := by
  by_cases h0 : n = 0
  · have hz : ((n : Int) == 0) = true := by simp; omega
    have hz3 : (n == 0) = true := by simp; omega
    have Hr : Hid (meanOf ⟨n, ft, fv, lt, lv, mn, mx, hi, lo⟩ = (0, false)) := Lib.hid (by unfold meanOf; rw [if_pos (.inl h0)])
    clear h0
    go_enter Try.func37, Try.ntmps37
    go_wp2_with fail
    exact bodyPost_ret (v := .tuple #[.int .u64 0, .bool false]) (by simp [results, Try.results37, go_sem]) rfl ⟨0, false, Hr, rfl, below_alloc _ _⟩
  · have hz : ((n : Int) == 0) = false := by simp; omega
    have hz3 : (n == 0) = false := by simp; omega
    by_cases h1 : n ≤ hi
    · have hz2 : decide ((n : Int) ≤ hi) = true := by simp; omega
      have hz4 : decide (n ≤ hi) = true := by simp; omega
      have Hr : Hid (meanOf ⟨n, ft, fv, lt, lv, mn, mx, hi, lo⟩ = (0, false)) := Lib.hid (by unfold meanOf; rw [if_pos (.inr h1)])
      clear h0 h1
      go_enter Try.func37, Try.ntmps37
      go_wp2_with fail
      exact bodyPost_ret (v := .tuple #[.int .u64 0, .bool false]) (by simp [results, Try.results37, go_sem]) rfl ⟨0, false, Hr, rfl, below_alloc _ _⟩
    · have hz2 : decide ((n : Int) ≤ hi) = false := by simp; omega
      have hz4 : decide (n ≤ hi) = false := by simp; omega
      have Hr : Hid (meanOf ⟨n, ft, fv, lt, lv, mn, mx, hi, lo⟩ = ((hi * 18446744073709551616 + lo) / n, true)) := Lib.hid (by unfold meanOf; rw [if_neg (by simp only; omega)])
      have hlt : hi < n := by omega
      have Hlt := Lib.hid hlt
      have HL := Lib.hid (And.intro hn2 hl)
      have B0 := Blk.new w 50 #[.int .u64 n, .int .i64 ft, .int .u64 fv, .int .i64 lt, .int .u64 lv, .int .u64 mn, .int .u64 mx, .int .u64 hi, .int .u64 lo]
      have b0 := B0.nine
      clear h0 h1 hlt hhi hn2 hl B0
      go_enter Try.func37, Try.ntmps37
      go_wp2_with fail
      go_loop [4, 5, 6] (fun a b i => ∃ r q j : Nat, j ≤ 64 ∧ a = .int .u64 r ∧ b = .int .u64 q ∧ i = .int .i64 (63 - (j : Int)) ∧ Hid (LongI hi lo n j q r)) (fun _ _ i => (intOf i + 1).toNat)
      case atStart => exact ⟨hi, 0, 0, by omega, rfl, rfl, by simp, Lib.hid (long_start hi lo n HL.out.2 Hlt.out)⟩
      case round =>
        obtain ⟨r, q, j, hj, rfl, rfl, rfl, HI⟩ := hrel
        rcases Nat.lt_or_ge j 64 with hj2 | hj2
        · have hN := HL.out.1
          have hI := HI.out
          have hrn := hI.lt
          have hnx := long_next hI hj2
          have htop := long_top hI Hlt.out HL.out.2 hj
          have hq63 : q < 9223372036854775808 := Nat.lt_of_lt_of_le htop (Nat.pow_le_pow_right (by decide) (show j ≤ 63 by omega))
          obtain ⟨k, hk⟩ : ∃ k, k = 63 - j := ⟨_, rfl⟩
          rw [← hk] at hnx
          obtain ⟨x, hx⟩ : ∃ x, x = lo / 2 ^ k := ⟨_, rfl⟩
          obtain ⟨d, hd⟩ : ∃ d, d = x % 2 := ⟨_, rfl⟩
          rw [← hx, ← hd] at hnx
          obtain ⟨t, ht⟩ : ∃ t, t = r / 9223372036854775808 := ⟨_, rfl⟩
          obtain ⟨r2, hr2⟩ : ∃ r2, r2 = 2 * r % 18446744073709551616 := ⟨_, rfl⟩
          obtain ⟨r3, hr3⟩ : ∃ r3, r3 = (r2 + d) % 18446744073709551616 := ⟨_, rfl⟩
          have hki : (63 : Int) - (j : Int) = (k : Int) := by omega
          rw [hki]
          have e1 : (r : Int) / 9223372036854775808 = (t : Int) := by omega
          have e2 : IntKind.u64.wrap (2 * (r : Int)) = (r2 : Int) := wrap_sum (by omega)
          have e3 : (lo : Int) / 2 ^ k = (x : Int) := by rw [hx]; exact nat_shr _ _
          have hxlt : x < 18446744073709551616 := by rw [hx]; exact Nat.lt_of_le_of_lt (Nat.div_le_self _ _) HL.out.2
          have e4 : bits .and .u64 (x : Int) 1 = (d : Int) := by rw [hd]; exact and_one_u64 x hxlt
          have e5 : IntKind.u64.wrap ((r2 : Int) + (d : Int)) = (r3 : Int) := wrap_sum (by omega)
          obtain ⟨q2, hq2⟩ : ∃ q2, q2 = 2 * q := ⟨_, rfl⟩
          have e6 : IntKind.u64.wrap (2 * (q : Int)) = (q2 : Int) := wrap_sum (by omega)
          rw [← hq2] at hnx
          have hp0 : 0 ≤ (k : Int) := by omega
          have hp1 : (k : Int).toNat = k := by omega
          have hkl : (k : Int) ≤ 63 := by omega
          have HK := Lib.hid hki
          have hnext : IntKind.i64.wrap ((k : Int) - 1) = 63 - ((j + 1 : Nat) : Int) := by rw [IntKind.wrap_i64]; omega
          by_cases hc : n ≤ 2 * r + d
          · rw [if_pos hc, if_pos hc] at hnx
            obtain ⟨r4, hr4⟩ : ∃ r4, r4 = 2 * r + d - n := ⟨_, rfl⟩
            have e7 : IntKind.u64.wrap ((r3 : Int) - (n : Int)) = (r4 : Int) := wrap_sum (by omega)
            have e8 : IntKind.u64.wrap ((q2 : Int) + 1) = ((q2 + 1 : Nat) : Int) := wrap_sum (by omega)
            rw [← hr4] at hnx
            have HN := Lib.hid hnx
            by_cases h63 : t = 1
            · have c1 : ((t : Int) == 1) = true := by simp; omega
              have c1' : (t == 1) = true := by simp; omega
              clear hnext hN hI hrn hnx htop hq63 hk hx hd ht hr2 hr3 hki hxlt hq2 hc hr4 h63
              go_wp2_with fail
              go_round
              case rel => exact ⟨r4, q2 + 1, j + 1, by omega, rfl, rfl, congrArg (Value.int .i64) (by have := HK.out; omega), HN⟩
              case measure => have := HK.out; simp [intOf]; try omega
            · have c1 : ((t : Int) == 1) = false := by simp; omega
              have c1' : (t == 1) = false := by simp; omega
              have c2 : decide ((n : Int) ≤ (r3 : Int)) = true := by simp; omega
              have c2' : decide (n ≤ r3) = true := by simp; omega
              clear hnext hN hI hrn hnx htop hq63 hk hx hd ht hr2 hr3 hki hxlt hq2 hc hr4 h63
              go_wp2_with fail
              go_round
              case rel => exact ⟨r4, q2 + 1, j + 1, by omega, rfl, rfl, congrArg (Value.int .i64) (by have := HK.out; omega), HN⟩
              case measure => have := HK.out; simp [intOf]; try omega
          · rw [if_neg hc, if_neg hc] at hnx
            have h63 : ¬ t = 1 := by omega
            have hr3' : r3 = 2 * r + d := by omega
            rw [← hr3'] at hnx
            have HN := Lib.hid hnx
            have c1 : ((t : Int) == 1) = false := by simp; omega
            have c1' : (t == 1) = false := by simp; omega
            have c2 : decide ((n : Int) ≤ (r3 : Int)) = false := by simp; omega
            have c2' : decide (n ≤ r3) = false := by simp; omega
            clear hnext hN hI hrn hnx htop hq63 hk hx hd ht hr2 hr3 hki hxlt hq2 hc h63 hr3'
            go_wp2_with fail
            go_round
            case rel => exact ⟨r3, q2, j + 1, by omega, rfl, rfl, congrArg (Value.int .i64) (by have := HK.out; omega), HN⟩
            case measure => have := HK.out; simp [intOf]; try omega
        · obtain rfl : j = 64 := by omega
          have hend := long_end HI.out
          have Hend : Hid (q = (hi * 18446744073709551616 + lo) / n) := Lib.hid hend
          clear hend
          go_wp2_with fail
          exact bodyPost_ret (v := .tuple #[.int .u64 q, .bool true]) (by simp [results, Try.results37, go_sem]) rfl ⟨q, true, Lib.hid (by rw [Hr.out, Hend.out]), rfl, below_alloc _ _⟩

end Go.Proofs.Ytdagegafanfhmaa
