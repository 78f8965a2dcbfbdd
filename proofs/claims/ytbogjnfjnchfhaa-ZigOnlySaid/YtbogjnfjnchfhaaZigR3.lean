/- Contracts of the document's own functions of layer 2: Get. -/
import Derived.Test.YtbogjnfjnchfhaaZigR2
import Derived.Test.YtbogjnfjnchfhaaZig5
import Derived.Test.YtbogjnfjnchfhaaRef7
namespace Go.Proofs.Ytbogjnfjnchfhaa
open Go.RowKit

theorem fits_less {n K : Nat} (h64 : n < 18446744073709551616) (hK : K ≤ 5) (h : n < 2 ^ zw K) (h0 : 0 < K) : n < 2 ^ zw (K - 1) ↔ zk n ≠ K := by
  constructor
  · intro h1
    have := zk_first n (K - 1) h1 (by omega)
    omega
  · intro h1
    have h2 := zk_first n K h hK
    have h3 : zw (zk n) ≤ zw (K - 1) := by
      have h5 : ∀ j ≤ 5, ∀ i ≤ j, zw i ≤ zw j := by decide
      exact h5 (K - 1) (by omega) (zk n) (by omega)
    exact Nat.lt_of_lt_of_le (zk_fits n h64) (Nat.pow_le_pow_right (by decide) h3)

theorem refFits_of (n j : Nat) (d : Int) (w : World) (hd : d = j) (hn : n < 18446744073709551616) (hk : j ≤ 5) :
    Calls Try.prog 40 #[.int .u64 n, .int .i64 d] w fun e w' => e = .returned (.bool (decide (n < 2 ^ zw j))) ∧ Below w.heap.size w w' := by subst hd; exact refFits_any n j w hn hk
/-- what the document's Get answers on bits that are sound -/
theorem refGetM (A : Option Addr) (c : Nat) (M : List Bool) (a d : Nat) (w : World) (hb : Bs w A (pack M)) (ha : a ≤ 4294967296) (hd : d ≤ 64) (hL : M.length ≤ 1073741824) :
    Calls Try.prog 43 #[.agg #[.slice A (pack M).length c, .int .i64 M.length], .int .i64 a, .int .i64 d] w fun e w' =>
      (if M.length < a + d then e = .returned (.tuple #[.int .u64 0, .int .i64 10]) else ∃ N : Nat, Hid (N = numB ((M.drop a).take d)) ∧ e = .returned (.tuple #[.int .u64 N, .int .i64 0])) ∧ Below w.heap.size w w' := by
  have hp := pack_le M (Nat.le_refl _)
  refine (refGet_any A c (pack M) M.length a d w hb (by omega) (by omega) (by omega) (by omega)).mono fun e w' ⟨he, hbel⟩ => ⟨?_, hbel⟩
  unfold getSpec at he
  rw [if_neg (by rw [sound_pack]; decide), if_neg (by omega)] at he
  split
  · rename_i h
    rw [if_pos (by omega)] at he
    exact he
  · rename_i h
    rw [if_neg (by omega), Int.toNat_natCast, Int.toNat_natCast, cutl_pack _ _ _ (by omega)] at he
    exact ⟨_, rfl, he⟩

theorem refGetM_of (A : Option Addr) (c : Nat) (M : List Bool) (a d : Nat) (x : Int) (w : World) (hx : x = a) (hb : Bs w A (pack M)) (ha : a ≤ 4294967296) (hd : d ≤ 64) (hL : M.length ≤ 1073741824) :
    Calls Try.prog 43 #[.agg #[.slice A (pack M).length c, .int .i64 M.length], .int .i64 x, .int .i64 d] w fun e w' =>
      (if M.length < a + d then e = .returned (.tuple #[.int .u64 0, .int .i64 10]) else ∃ N : Nat, Hid (N = numB ((M.drop a).take d)) ∧ e = .returned (.tuple #[.int .u64 N, .int .i64 0])) ∧ Below w.heap.size w w' := by
  subst hx; exact refGetM A c M a d w hb ha hd hL

theorem refGetM_out (A : Option Addr) (c : Nat) (M : List Bool) (a d : Nat) (x : Int) (w : World) (hx : x = a) (hb : Bs w A (pack M)) (ha : a ≤ 4294967296) (hd : d ≤ 64) (hL : M.length ≤ 1073741824) (h : M.length < a + d) :
    Calls Try.prog 43 #[.agg #[.slice A (pack M).length c, .int .i64 M.length], .int .i64 x, .int .i64 d] w fun e w' => e = .returned (.tuple #[.int .u64 0, .int .i64 10]) ∧ Below w.heap.size w w' :=
  (refGetM_of A c M a d x w hx hb ha hd hL).mono fun e w' ⟨he, hbel⟩ => ⟨by rwa [if_pos h] at he, hbel⟩
theorem refGetM_in (A : Option Addr) (c : Nat) (M : List Bool) (a d : Nat) (x : Int) (w : World) (hx : x = a) (hb : Bs w A (pack M)) (ha : a ≤ 4294967296) (hd : d ≤ 64) (hL : M.length ≤ 1073741824) (h : ¬ M.length < a + d) :
    Calls Try.prog 43 #[.agg #[.slice A (pack M).length c, .int .i64 M.length], .int .i64 x, .int .i64 d] w fun e w' => ∃ N : Nat, Hid (N = numB ((M.drop a).take d)) ∧ e = .returned (.tuple #[.int .u64 N, .int .i64 0]) ∧ Below w.heap.size w w' :=
  (refGetM_of A c M a d x w hx hb ha hd hL).mono fun e w' ⟨he, hbel⟩ => by
    rw [if_neg h] at he
    obtain ⟨N, h1, h2⟩ := he
    exact ⟨N, h1, h2, hbel⟩

set_option maxRecDepth 100000 in
set_option maxHeartbeats 4000000 in
theorem refZget_in (A : Option Addr) (c : Nat) (M : List Bool) (a : Nat) (w : World) (hb : Bs w A (pack M)) (had : a ≤ M.length) (hL : M.length ≤ 1073741824) (R : Int × Nat × Nat) (hR : R = zres a (zget (M.drop a))) :
    Calls Try.prog 29 #[.agg #[.slice A (pack M).length c, .int .i64 M.length], .int .i64 a] w fun e w' =>
      e = .returned (.tuple #[.int .i64 R.1, .int .i64 R.2.1, .int .i64 R.2.2]) ∧ Below w.heap.size w w' := by
  obtain ⟨r, hr⟩ : ∃ r, r = zrow (M.drop a) := ⟨_, rfl⟩
  have hr5 : r ≤ 5 := by rw [hr]; exact ones_le 5 _
  have hrl : r ≤ M.length - a := by rw [hr]; have := ones_len 5 (M.drop a); rw [List.length_drop] at this; exact this
  have hzl := zl_pos r
  have hzw := zw_le r
  have hzr : r < 5 → zl r = r + 1 := fun h => by
    have : ∀ j < 5, zl j = j + 1 := by decide
    exact this r h
  have hz5 : r = 5 → zl r = 5 := fun h => by subst h; rfl
  have hdl : (M.drop a).length = M.length - a := List.length_drop
  have hp := pack_le M (Nat.le_refl _)
  have hbits : ∀ k, bt (pack M) (a + k) = (M.drop a).getD k false := fun k => by
    rw [bt_pack, List.getD_eq_getElem?_getD, List.getD_eq_getElem?_getD, List.getElem?_drop]
  have HR := Lib.hid hR
  have Hr := Lib.hid hr
  have Hdl := Lib.hid hdl
  have HZr := Lib.hid hzr
  have HZ5 := Lib.hid hz5
  have HBits := Lib.hid hbits
  have hlb : ∀ i, i < M.length → i / 8 < (pack M).length := fun i hi => by rw [pack_length]; unfold nb; omega
  have HLB := Lib.hid hlb
  clear hr hR hdl hzr hz5 hbits hlb
  go_enter Try.func29, Try.ntmps29
  have kA := keepA
  go_wp2_with fail
  refine Calls.mono (refSound_any A c (pack M) M.length _ hb.up (by omega) (by omega)) ?_
  rw [sound_pack]
  rintro e w1 ⟨rfl, hb1⟩
  have x1 := boxN hb1
  have t1 := go1 (w := w) hb1
  have hd1 : decide ((a : Int) < 0) = false := by simp
  have hd2 : decide (M.length < a) = false := by simp; omega
  go_wp2_with fail
  go_loopw [1, 8] (fun q i wr => ∃ k : Nat, k ≤ r ∧ i = .int .i64 k ∧ q = .int .i64 ((a + k : Nat) : Int) ∧ Hid (ones (5 - k) ((M.drop a).drop k) + k = r) ∧ Below w1.heap.size w1 wr) (fun _ i _ => 6 - (intOf i).toNat)
  case atStart => exact ⟨0, Nat.zero_le _, rfl, by simp, Lib.hid Hr.out.symm, Below.refl _ _⟩
  case round =>
    obtain ⟨k, hk, rfl, rfl, HO, hbel⟩ := hrel
    have x2 := box hbel x1
    have t2 := on t1 hbel
    clear x1
    by_cases hlt : k < r
    · have hk5 : k < 5 := by omega
      have hbit : bt (pack M) (a + k) = true := by
        rw [HBits.out]
        cases hb : (M.drop a).getD k false
        · have h := HO.out
          rw [ones_stop 5 _ k hb] at h
          omega
        · rfl
      have hgo : Hid (ones (5 - (k + 1)) ((M.drop a).drop (k + 1)) + (k + 1) = r) := Lib.hid (by
        have h := HO.out
        rw [ones_go 5 _ k hk5 (by rw [← HBits.out]; exact hbit)] at h
        omega)
      have HBit := Lib.hid hbit
      clear hbit
      have hak : a + k < M.length := by omega
      have h1 : (((b2u true).toNat : Int) == 1) = true := rfl
      go_wp2_with fail
      refine Calls.mono (refBit_any A c (pack M) M.length (a + k) _ (hb.on t2) (HLB.out _ (by omega)) (by unfold maxLen; omega)) ?_
      rw [HBit.out]
      rintro e w3 ⟨rfl, hb3⟩
      go_wp2
      go_roundw
      case measure => simp [intOf]; omega
      case rel => exact ⟨k + 1, by omega, by go_num, by go_num, hgo, on hbel hb3⟩
    · obtain rfl : k = r := by omega
      have hfar : k = 5 ∨ (k < 5 ∧ a + k < M.length) ∨ (k < 5 ∧ ¬ a + k < M.length) := by omega
      rcases hfar with h5 | ⟨h5, hin⟩ | ⟨h5, hin⟩
      rotate_left 2
      · have hRv : R = (0, 0, 10) := by
          rw [HR.out]
          exact zres_out (by rw [← Hr.out, Hdl.out, HZr.out h5]; omega)
        subst hRv
        have hinI : ¬ ((a : Int) + k < M.length) := by omega
        go_wp2
        go_ret3
        exact ⟨rfl, t2⟩
      · have hz := HZ5.out h5
        have hk50 : ¬ k < 5 := by omega
        rw [show a + k = a + zl k by omega]
        have hfr : a + zl k ≤ M.length := by omega
        have x9 := x2
        have t9 := t2
        clear h5 hrl x2
        go_wp2_with fail
        refine Calls.mono (refRow_any k _ hr5) ?_
        rintro e w4 ⟨rfl, hb4⟩
        have x4 := box hb4 x9
        have t4 := on t9 hb4
        clear x9
        go_wp2_with fail
        by_cases hfit : M.length < a + zl k + zw k
        · refine Calls.mono (refGetM_out A c M (a + zl k) (zw k) _ _ (by omega) (hb.on t4) (by omega) hzw hL hfit) ?_
          rintro e w5 ⟨rfl, hb5⟩
          have t5 := on t4 hb5
          have hRv : R = (0, 0, 10) := by rw [HR.out]; exact zres_out (by rw [← Hr.out, Hdl.out]; omega)
          subst hRv
          go_wp2
          go_ret3
          exact ⟨rfl, t5⟩
        · refine Calls.mono (refGetM_in A c M (a + zl k) (zw k) _ _ (by omega) (hb.on t4) (by omega) hzw hL hfit) ?_
          rintro e w5 ⟨N, HN, rfl, hb5⟩
          have t5 := on t4 hb5
          have hlen : ((M.drop (a + zl k)).take (zw k)).length = zw k := by rw [List.length_take, List.length_drop]; omega
          have hNw : N < 2 ^ zw k := by
            have h := numB_lt ((M.drop (a + zl k)).take (zw k))
            rwa [← HN.out, hlen] at h
          have hNl : N < 18446744073709551616 := by
            have h5 : 2 ^ zw k ≤ 2 ^ 64 := Nat.pow_le_pow_right (by decide) hzw
            omega
          have hubd := unfoldZ_bd N hNl
          have HNw := Lib.hid hNw
          have HNe : Hid (N = numB (((M.drop a).drop (zl (zrow (M.drop a)))).take (zw (zrow (M.drop a))))) := Lib.hid (by rw [HN.out, ← Hr.out, List.drop_drop])
          have Hfit : Hid (¬ (M.drop a).length < zl (zrow (M.drop a)) + zw (zrow (M.drop a))) := Lib.hid (by rw [← Hr.out, Hdl.out]; omega)
          clear hlen hNw
          by_cases h0 : k = 0
          · have hzk : zk N = k := by
              have := zk_first N k HNw.out hr5
              omega
            have hRv : R = (unfoldZ N, a + (zl k + zw k), 0) := by rw [HR.out, zres_ok Hfit.out HNe.out (by rw [hzk, Hr.out]), ← Hr.out]
            subst hRv
            have h0d : ¬ (0 < k) := by omega
            clear hzk h0
            go_wp2_with fail
            refine Calls.mono (refUnfold_any N _ hNl) ?_
            rintro e w6 ⟨rfl, rfl⟩
            go_wp2
            go_ret3
            exact ⟨ret_int3 rfl (by omega) rfl, t5⟩
          · have hk1 : 0 < k := by omega
            have hiff := fits_less hNl hr5 HNw.out hk1
            by_cases hzk : zk N = k
            · have hd : decide (N < 2 ^ zw (k - 1)) = false := by
                rw [decide_eq_false_iff_not, hiff]; simpa using hzk
              have hRv : R = (unfoldZ N, a + (zl k + zw k), 0) := by rw [HR.out, zres_ok Hfit.out HNe.out (by rw [hzk, Hr.out]), ← Hr.out]
              subst hRv
              have Hd := Lib.hid hd
              clear hd hiff hzk h0
              go_wp2_with fail
              refine Calls.mono (refFits_of N (k - 1) _ _ (by omega) hNl (by omega)) ?_
              rw [Hd.out]
              rintro e w6 ⟨rfl, hb6⟩
              have t6 := on t5 hb6
              go_wp2_with fail
              refine Calls.mono (refUnfold_any N _ hNl) ?_
              rintro e w7 ⟨rfl, rfl⟩
              go_wp2
              go_ret3
              exact ⟨ret_int3 rfl (by omega) rfl, t6⟩
            · have hd : decide (N < 2 ^ zw (k - 1)) = true := by
                rw [decide_eq_true_eq, hiff]; exact hzk
              have hRv : R = (0, 0, 11) := by rw [HR.out, zres_bad Hfit.out HNe.out (by rw [← Hr.out]; exact hzk)]
              subst hRv
              have Hd := Lib.hid hd
              clear hd hiff hzk h0
              go_wp2_with fail
              refine Calls.mono (refFits_of N (k - 1) _ _ (by omega) hNl (by omega)) ?_
              rw [Hd.out]
              rintro e w6 ⟨rfl, hb6⟩
              have t6 := on t5 hb6
              go_wp2
              go_ret3
              exact ⟨rfl, t6⟩
      · have hz := HZr.out h5
        have hfr : a + zl k ≤ M.length := by omega
        have hbit : bt (pack M) (a + k) = false := by
          rw [HBits.out]
          cases hb : (M.drop a).getD k false
          · rfl
          · have h := HO.out
            rw [ones_go 5 _ k h5 hb] at h
            omega
        have HBit := Lib.hid hbit
        have h1 : (((b2u false).toNat : Int) == 1) = false := rfl
        clear hbit
        go_wp2_with fail
        refine Calls.mono (refBit_any A c (pack M) M.length (a + k) _ (hb.on t2) (HLB.out _ (by omega)) (by unfold maxLen; omega)) ?_
        rw [HBit.out]
        rintro e w3 ⟨rfl, hb3⟩
        have x9 := box hb3 x2
        have t9 := on t2 hb3
        clear x2 hbel
        go_wp2_with fail
        rw [show ((a : Int) + k + 1) = ((a + zl k : Nat) : Int) by omega]
        refine Calls.mono (refRow_any k _ hr5) ?_
        rintro e w4 ⟨rfl, hb4⟩
        have x4 := box hb4 x9
        have t4 := on t9 hb4
        clear x9
        go_wp2_with fail
        by_cases hfit : M.length < a + zl k + zw k
        · refine Calls.mono (refGetM_out A c M (a + zl k) (zw k) _ _ (by omega) (hb.on t4) (by omega) hzw hL hfit) ?_
          rintro e w5 ⟨rfl, hb5⟩
          have t5 := on t4 hb5
          have hRv : R = (0, 0, 10) := by rw [HR.out]; exact zres_out (by rw [← Hr.out, Hdl.out]; omega)
          subst hRv
          go_wp2
          go_ret3
          exact ⟨rfl, t5⟩
        · refine Calls.mono (refGetM_in A c M (a + zl k) (zw k) _ _ (by omega) (hb.on t4) (by omega) hzw hL hfit) ?_
          rintro e w5 ⟨N, HN, rfl, hb5⟩
          have t5 := on t4 hb5
          have hlen : ((M.drop (a + zl k)).take (zw k)).length = zw k := by rw [List.length_take, List.length_drop]; omega
          have hNw : N < 2 ^ zw k := by
            have h := numB_lt ((M.drop (a + zl k)).take (zw k))
            rwa [← HN.out, hlen] at h
          have hNl : N < 18446744073709551616 := by
            have h5 : 2 ^ zw k ≤ 2 ^ 64 := Nat.pow_le_pow_right (by decide) hzw
            omega
          have hubd := unfoldZ_bd N hNl
          have HNw := Lib.hid hNw
          have HNe : Hid (N = numB (((M.drop a).drop (zl (zrow (M.drop a)))).take (zw (zrow (M.drop a))))) := Lib.hid (by rw [HN.out, ← Hr.out, List.drop_drop])
          have Hfit : Hid (¬ (M.drop a).length < zl (zrow (M.drop a)) + zw (zrow (M.drop a))) := Lib.hid (by rw [← Hr.out, Hdl.out]; omega)
          clear hlen hNw
          by_cases h0 : k = 0
          · have hzk : zk N = k := by
              have := zk_first N k HNw.out hr5
              omega
            have hRv : R = (unfoldZ N, a + (zl k + zw k), 0) := by rw [HR.out, zres_ok Hfit.out HNe.out (by rw [hzk, Hr.out]), ← Hr.out]
            subst hRv
            have h0d : ¬ (0 < k) := by omega
            clear hzk h0
            go_wp2_with fail
            refine Calls.mono (refUnfold_any N _ hNl) ?_
            rintro e w6 ⟨rfl, rfl⟩
            go_wp2
            go_ret3
            exact ⟨ret_int3 rfl (by omega) rfl, t5⟩
          · have hk1 : 0 < k := by omega
            have hiff := fits_less hNl hr5 HNw.out hk1
            by_cases hzk : zk N = k
            · have hd : decide (N < 2 ^ zw (k - 1)) = false := by
                rw [decide_eq_false_iff_not, hiff]; simpa using hzk
              have hRv : R = (unfoldZ N, a + (zl k + zw k), 0) := by rw [HR.out, zres_ok Hfit.out HNe.out (by rw [hzk, Hr.out]), ← Hr.out]
              subst hRv
              have Hd := Lib.hid hd
              clear hd hiff hzk h0
              go_wp2_with fail
              refine Calls.mono (refFits_of N (k - 1) _ _ (by omega) hNl (by omega)) ?_
              rw [Hd.out]
              rintro e w6 ⟨rfl, hb6⟩
              have t6 := on t5 hb6
              go_wp2_with fail
              refine Calls.mono (refUnfold_any N _ hNl) ?_
              rintro e w7 ⟨rfl, rfl⟩
              go_wp2
              go_ret3
              exact ⟨ret_int3 rfl (by omega) rfl, t6⟩
            · have hd : decide (N < 2 ^ zw (k - 1)) = true := by
                rw [decide_eq_true_eq, hiff]; exact hzk
              have hRv : R = (0, 0, 11) := by rw [HR.out, zres_bad Hfit.out HNe.out (by rw [← Hr.out]; exact hzk)]
              subst hRv
              have Hd := Lib.hid hd
              clear hd hiff hzk h0
              go_wp2_with fail
              refine Calls.mono (refFits_of N (k - 1) _ _ (by omega) hNl (by omega)) ?_
              rw [Hd.out]
              rintro e w6 ⟨rfl, hb6⟩
              have t6 := on t5 hb6
              go_wp2
              go_ret3
              exact ⟨rfl, t6⟩

end Go.Proofs.Ytbogjnfjnchfhaa
