/- Contracts of package zig: Get. -/
import Derived.Test.YtbogjnfjnchfhaaZig4
namespace Go.Proofs.Ytbogjnfjnchfhaa
open Go.RowKit

/-- what Get answers, of what stands from a on -/
def zres (a : Nat) (z : Nat × Nat × Nat) : Int × Nat × Nat := if z.2.2 = 0 then (unfoldZ z.1, a + z.2.1, 0) else (0, 0, z.2.2)
theorem zres_code (a : Nat) (L : List Bool) : (zres a (zget L)).2.2 ≤ 11 := by
  unfold zres
  split
  · exact Nat.zero_le _
  · rename_i h
    have := (zget_zero (L := L) (n := (zget L).1) (len := (zget L).2.1) (e := (zget L).2.2) rfl h).2.2
    show (zget L).2.2 ≤ 11
    omega
theorem zres_out {a : Nat} {L : List Bool} (h : L.length < zl (zrow L) + zw (zrow L)) : zres a (zget L) = (0, 0, 10) := by
  have e : zget L = (0, 0, 10) := by unfold zget; rw [if_pos h]
  rw [e]; rfl
theorem zres_bad {a N : Nat} {L : List Bool} (h : ¬ L.length < zl (zrow L) + zw (zrow L)) (hN : N = numB ((L.drop (zl (zrow L))).take (zw (zrow L)))) (hk : zk N ≠ zrow L) : zres a (zget L) = (0, 0, 11) := by
  have e : zget L = (0, 0, 11) := by unfold zget; rw [if_neg h, ← hN, if_pos hk]
  rw [e]; rfl
theorem zres_ok {a N : Nat} {L : List Bool} (h : ¬ L.length < zl (zrow L) + zw (zrow L)) (hN : N = numB ((L.drop (zl (zrow L))).take (zw (zrow L)))) (hk : zk N = zrow L) : zres a (zget L) = (unfoldZ N, a + (zl (zrow L) + zw (zrow L)), 0) := by
  have e : zget L = (N, zl (zrow L) + zw (zrow L), 0) := by unfold zget; rw [if_neg h, ← hN, if_neg (by simpa using hk)]
  rw [e]; rfl
theorem tri1 {w w' : World} (h : Below w.heap.size w w') {a b c : Addr} {x y z : Value} (t : w.cell? a = some x ∧ w.cell? b = some y ∧ w.cell? c = some z) : w'.cell? a = some x ∧ w'.cell? b = some y ∧ w'.cell? c = some z :=
  ⟨cel h t.1, cel h t.2.1, cel h t.2.2⟩
theorem ret_int3 {k j i : IntKind} {a b c d e f : Int} (h : a = b) (h2 : c = d) (h3 : e = f) : Ending.returned (.tuple #[.int k a, .int j c, .int i e]) = .returned (.tuple #[.int k b, .int j d, .int i f]) := by rw [h, h2, h3]
theorem zp_inj (i j : Nat) (hi : i ≤ 5) (hj : j ≤ 5) (h : zp i = zp j) : i = j := by
  have : ∀ i ≤ 5, ∀ j ≤ 5, zp i = zp j → i = j := by decide
  exact this i hi j hj h

set_option maxHeartbeats 2000000 in
theorem zget_in (A : Option Addr) (c : Nat) (M : List Bool) (a : Nat) (w : World) (hb : Bs w A (pack M)) (had : a ≤ M.length) (hL : M.length ≤ 1073741824) (R : Int × Nat × Nat) (hR : R = zres a (zget (M.drop a))) :
    Calls Try.prog 28 #[.agg #[.slice A (pack M).length c, .int .i64 M.length], .int .i64 a] w fun e w' =>
      e = .returned (.tuple #[.int .i64 R.1, .int .i64 R.2.1, .int .u16 R.2.2]) ∧ Below w.heap.size w w' := by
  obtain ⟨r, hr⟩ : ∃ r, r = zrow (M.drop a) := ⟨_, rfl⟩
  have hr5 : r ≤ 5 := by rw [hr]; exact ones_le 5 _
  have hzl := zl_pos r
  have hzw := zw_le r
  have hdl : (M.drop a).length = M.length - a := List.length_drop
  have HR := Lib.hid hR
  have Hr := Lib.hid hr
  have Hdl := Lib.hid hdl
  clear hr hR hdl
  go_enter Try.func28, Try.ntmps28
  have kA := keepA
  go_wp2_with fail
  refine Calls.mono (soundM A c M _ hb.up (by omega)) ?_
  rintro e w1 ⟨rfl, hb1⟩
  have x1 := boxN hb1
  have t1 := go1 (w := w) hb1
  go_wp2_with fail
  refine Calls.mono (prefixed_in A c M a _ (hb.below t1) had (by omega) r Hr.out) ?_
  by_cases h1 : M.length < a + zl r
  · rw [if_pos h1]
    rintro e w2 ⟨rfl, hb2⟩
    have t2 := on t1 hb2
    have hRv : R = (0, 0, 10) := by rw [HR.out]; exact zres_out (by rw [← Hr.out, Hdl.out]; omega)
    subst hRv
    go_wp2
    go_ret3
    exact ⟨rfl, onA t2⟩
  · rw [if_neg h1]
    rintro e w2 ⟨rfl, hb2⟩
    have x2 := box hb2 x1
    have t2 := on t1 hb2
    clear x1
    by_cases h2 : M.length < a + zl r + zw r
    · have hRv : R = (0, 0, 10) := by rw [HR.out]; exact zres_out (by rw [← Hr.out, Hdl.out]; omega)
      subst hRv
      go_wp2_with fail
      refine Calls.mono (get_out A c M _ _ _ (hb.on t2) (by omega) (by omega) (by omega) (by omega)) ?_
      rintro e w3 ⟨rfl, hb3⟩
      have t3 := on t2 hb3
      go_wp2
      go_ret3
      exact ⟨rfl, t3⟩
    · go_wp2_with fail
      refine Calls.mono (get_E A c M _ _ _ (hb.on t2) (by omega) (by omega) (by omega) (by omega)) ?_
      rintro e w3 ⟨N, HN, rfl, hb3⟩
      have p3 := ((Blk.new w2 68 #[.int .u64 (zp r : Nat), .int .i64 (zl r : Nat), .int .i64 (zw r : Nat)]).go hb3).tri
      have t3 := on t2 hb3
      have hNl : N < 18446744073709551616 := by
        have h := numB_lt ((M.drop ((a : Int) + zl r).toNat).take ((zw r : Int)).toNat)
        rw [← HN.out] at h
        have h5 : 2 ^ ((M.drop ((a : Int) + zl r).toNat).take ((zw r : Int)).toNat).length ≤ 2 ^ 64 := Nat.pow_le_pow_right (by decide) (by rw [List.length_take]; omega)
        omega
      have hNe : N = numB (((M.drop a).drop (zl (zrow (M.drop a)))).take (zw (zrow (M.drop a)))) := by
        rw [HN.out, ← Hr.out, List.drop_drop, Int.toNat_natCast, show ((a : Int) + zl r).toNat = a + zl r by omega]
      have HNe := Lib.hid hNe
      have Hfit : Hid (¬ (M.drop a).length < zl (zrow (M.drop a)) + zw (zrow (M.drop a))) := Lib.hid (by rw [← Hr.out, Hdl.out]; omega)
      clear hNe
      have hp := plus_cell w3
      have p30 := p3.1
      by_cases h3 : zk N = r
      · have hRv : R = (unfoldZ N, a + (zl r + zw r), 0) := by rw [HR.out, zres_ok Hfit.out HNe.out (by rw [h3, Hr.out]), ← Hr.out]
        subst hRv
        have hfit := fitting_any N
        rw [h3] at hfit
        have HF := fun w => Lib.hid (hfit w hNl)
        clear h3 hfit
        go_wp2_with fail
        refine wp_region_ext (by kernel_rfl) (by kernel_rfl) ?_
        repeat (go_big_quiet_step ((go_at_call 39; exact ext_of (HF _).out)))
        refine wpQuiet_nil ?_
        rintro w4 ⟨x, rfl⟩
        have hb4 := plus_below w3 x
        clear hp
        generalize plus w3 x = w4 at *
        have p4 := tri1 hb4 p30
        have t4 := on t3 hb4
        have hubd := unfoldZ_bd N hNl
        clear p30 p3 HF
        go_wp2_with fail
        go_quiet ((go_at_call 24; exact quiet_eq (unfold_any N _ hNl)))
        go_wp2
        go_ret3
        refine ⟨ret_int3 rfl (by omega) rfl, ?_⟩
        exact below_drewN (onA t4) _
      · have hRv : R = (0, 0, 11) := by rw [HR.out, zres_bad Hfit.out HNe.out (by rw [← Hr.out]; exact h3)]
        subst hRv
        have hz : ((zp (zk N) : Int) == (zp r : Int)) = false := by
          rw [beq_eq_false_iff_ne]
          intro h
          exact h3 (zp_inj _ _ (zk_le N) hr5 (by omega))
        go_wp2_with fail
        refine wp_region_ext (by kernel_rfl) (by kernel_rfl) ?_
        repeat (go_big_quiet_step ((go_at_call 39; exact ext_of (fitting_any N _ hNl))))
        refine wpQuiet_nil ?_
        rintro w4 ⟨x, rfl⟩
        have hb4 := plus_below w3 x
        clear hp
        generalize plus w3 x = w4 at *
        have t4 := on t3 hb4
        go_wp2
        go_ret3
        exact ⟨rfl, t4⟩

end Go.Proofs.Ytbogjnfjnchfhaa
