/- Contracts of the document's own functions of layer 24: Join. -/
import Derived.Test.YtdagegafanfhmaaAgg1
import Derived.Deep.DeepCutAuto
namespace Go.Proofs.Ytdagegafanfhmaa
open Go.RowKit

set_option maxRecDepth 100000 in
set_option maxHeartbeats 2000000 in
theorem refAggjoin_any (a b : AggD) (w : World) (ha : a.ok) (hb : b.ok) :
    Calls Try.prog 35 #[.agg a.cells, .agg b.cells] w fun e w' => e = .returned (.tuple #[.agg (aggJoin a b).1.cells, .int .i64 (aggJoin a b).2]) ∧ Below w.heap.size w w' := by
  obtain ⟨R, hR⟩ : ∃ R, R = aggJoin a b := ⟨_, rfl⟩
  rw [← hR]
  unfold aggJoin at hR
  obtain ⟨n, ft, fv, lt, lv, mn, mx, hi, lo⟩ := a
  obtain ⟨n', ft', fv', lt', lv', mn', mx', hi', lo'⟩ := b
  unfold AggD.ok at ha hb
  simp only at ha hb
  have HA := Lib.hid ha
  have HB := Lib.hid hb
  clear ha hb
  by_cases h0 : n = 0
  · rw [if_pos h0] at hR
    subst hR
    have hn0 : ((n : Int) == 0) = true := by rw [beq_iff_eq]; omega
    clear h0
    unfold AggD.cells
    go_enter Try.func35, Try.ntmps35
    go_wp2
    exact bodyPost_ret (results_row_tmp Try.results35 _ _ (w.heap.size + 2) 50 _ _ rfl (three_boxes _ _ _ _ _) Try.underlying50 rfl (by kernel_rfl) (.int .i64 0) rfl) rfl ⟨rfl, below_alloc3 _ _ _ _⟩
  · rw [if_neg h0] at hR
    have hn0 : ((n : Int) == 0) = false := by rw [beq_eq_false_iff_ne]; omega
    clear h0
    by_cases h1 : n' = 0
    · rw [if_pos h1] at hR
      subst hR
      have hn1 : ((n' : Int) == 0) = true := by rw [beq_iff_eq]; omega
      clear h1
      unfold AggD.cells
      go_enter Try.func35, Try.ntmps35
      go_wp2
      exact bodyPost_ret (results_row_tmp Try.results35 _ _ (w.heap.size + 2) 50 _ _ rfl (three_boxes _ _ _ _ _) Try.underlying50 rfl (by kernel_rfl) (.int .i64 0) rfl) rfl ⟨rfl, below_alloc3 _ _ _ _⟩
    · rw [if_neg h1] at hR
      have hn1 : ((n' : Int) == 0) = false := by rw [beq_eq_false_iff_ne]; omega
      clear h1
      by_cases h2 : ft' ≤ lt
      · rw [if_pos h2] at hR
        subst hR
        unfold AggD.cells
        go_enter Try.func35, Try.ntmps35
        go_wp2
        exact bodyPost_ret (results_row_tmp Try.results35 _ _ (w.heap.size + 2) 50 _ _ rfl (three_boxes _ _ _ _ _) Try.underlying50 rfl (by kernel_rfl) (.int .i64 240) rfl) rfl ⟨rfl, below_alloc3 _ _ _ _⟩
      · rw [if_neg h2] at hR
        have h2' : lt < ft' := by omega
        obtain ⟨L, hL⟩ : ∃ L, L = (lo + lo') % 18446744073709551616 := ⟨_, rfl⟩
        obtain ⟨K, hK⟩ : ∃ K, K = (lo + lo') / 18446744073709551616 := ⟨_, rfl⟩
        obtain ⟨Hh, hH⟩ : ∃ H, H = (hi + hi' + K) % 18446744073709551616 := ⟨_, rfl⟩
        have hK1 : K ≤ 1 := by have := HA.out; have := HB.out; omega
        have hlo : lo < 18446744073709551616 ∧ lo' < 18446744073709551616 := by have := HA.out; have := HB.out; omega
        have He2 : Hid (IntKind.u64.wrap ((lo : Int) + lo') = (L : Int)) := Lib.hid (by rw [IntKind.wrap_u64]; omega)
        obtain ⟨H0, hH0⟩ : ∃ H0, H0 = (hi + hi') % 18446744073709551616 := ⟨_, rfl⟩
        have He3 : Hid (IntKind.u64.wrap ((hi : Int) + hi') = (H0 : Int)) := Lib.hid (by rw [IntKind.wrap_u64]; omega)
        have Hc : Hid ((L < lo → Hh = (H0 + 1) % 18446744073709551616) ∧ (¬ L < lo → Hh = H0)) := Lib.hid (by
          constructor
          · intro h; have : K = 1 := by omega
            omega
          · intro h; have : K = 0 := by omega
            omega)
        have He4 : Hid (IntKind.u64.wrap (IntKind.u64.wrap ((hi : Int) + hi') + 1) = (((H0 + 1) % 18446744073709551616 : Nat) : Int)) := Lib.hid (by rw [He3.out, IntKind.wrap_u64]; omega)
        clear hH0 hlo
        have hR2 : Hid (R = (⟨(n + n') % 18446744073709551616, ft, fv, lt', lv', min mn mn', max mx mx', Hh, L⟩, 0)) := Lib.hid (by rw [hR]; unfold aggSum; simp only; rw [← hK, ← hH, ← hL])
        have hd : decide (ft' ≤ lt) = false := decide_eq_false h2
        have He1 : Hid (IntKind.u64.wrap ((n : Int) + n') = (((n + n') % 18446744073709551616 : Nat) : Int)) := Lib.hid (by rw [IntKind.wrap_u64]; omega)
        clear hR hL hK hH h2 hK1
        unfold AggD.cells
        go_enter Try.func35, Try.ntmps35
        go_wp2
        all_goals
          refine bodyPost_ret (results_row_tmp Try.results35 _ _ (w.heap.size + 2) 50 _ _ rfl ((three_boxes _ _ _ _ _).alloc _) Try.underlying50 rfl (by kernel_rfl) (.int .i64 0) rfl) rfl ⟨?_, (below_alloc3 _ _ _ _).alloc (by simp; omega) _⟩
          rw [hR2.out]
          have e2 := He2.out
          have e3 := He3.out
          have e4 := He4.out
          have hc := Hc.out
          exact ret_agg He1.out rfl rfl rfl rfl (by simp only; omega) (by simp only; omega) (by simp only; omega) e2

end Go.Proofs.Ytdagegafanfhmaa
