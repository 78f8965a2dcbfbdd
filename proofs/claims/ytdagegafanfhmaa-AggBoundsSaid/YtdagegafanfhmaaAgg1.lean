/- Contracts of package agg and of the document's own functions of layer 24: One, Join. -/
import Derived.Test.YtdagegafanfhmaaUp
import Derived.Laws.Externs
import Derived.Shelf.Spec.BitsCarry
import Derived.Outline
namespace Go.Proofs.Ytdagegafanfhmaa
open Go.RowKit

/-- what samples come to -/
structure AggD where
  n : Nat
  ft : Int
  fv : Nat
  lt : Int
  lv : Nat
  mn : Nat
  mx : Nat
  hi : Nat
  lo : Nat

def AggD.cells (a : AggD) : Array Value := #[.int .u64 a.n, .int .i64 a.ft, .int .u64 a.fv, .int .i64 a.lt, .int .u64 a.lv, .int .u64 a.mn, .int .u64 a.mx, .int .u64 a.hi, .int .u64 a.lo]
def AggD.ok (a : AggD) : Prop := a.n < 18446744073709551616 ∧ (-9223372036854775808 ≤ a.ft ∧ a.ft ≤ 9223372036854775807) ∧ a.fv < 18446744073709551616 ∧ (-9223372036854775808 ≤ a.lt ∧ a.lt ≤ 9223372036854775807) ∧ a.lv < 18446744073709551616 ∧
  a.mn < 18446744073709551616 ∧ a.mx < 18446744073709551616 ∧ a.hi < 18446744073709551616 ∧ a.lo < 18446744073709551616
def aggNil : AggD := ⟨0, 0, 0, 0, 0, 0, 0, 0, 0⟩
def aggOne (t : Int) (v : Nat) : AggD := ⟨1, t, v, t, v, v, v, 0, v⟩
def aggSum (a b : AggD) : AggD := ⟨(a.n + b.n) % 18446744073709551616, a.ft, a.fv, b.lt, b.lv, min a.mn b.mn, max a.mx b.mx, (a.hi + b.hi + (a.lo + b.lo) / 18446744073709551616) % 18446744073709551616, (a.lo + b.lo) % 18446744073709551616⟩
def aggJoin (a b : AggD) : AggD × Nat := if a.n = 0 then (b, 0) else if b.n = 0 then (a, 0) else if b.ft ≤ a.lt then (aggNil, 240) else (aggSum a b, 0)

theorem one_any (t : Int) (v : Nat) (w : World) : Calls Try.prog 38 #[.agg #[.int .i64 t, .int .u64 v]] w fun e w' => e = .returned (.agg (aggOne t v).cells) ∧ Below w.heap.size w w' := by
  go_enter Try.func38, Try.ntmps38
  go_wp2
  exact bodyPost_ret (results_cell_row Try.results38 _ _ (w.heap.size + 1) 50 (aggOne t v).cells (0, 0) _ rfl (by have h := heap_alloc_new (w.alloc (.cells #[.int .i64 t, .int .u64 v] 48)) (.cells (aggOne t v).cells 50); rw [World.size_alloc] at h; exact h) Try.underlying50 rfl (by kernel_rfl)) rfl ⟨rfl, below_alloc2 _ _ _⟩

theorem refOne_any (t : Int) (v : Nat) (w : World) : Calls Try.prog 39 #[.agg #[.int .i64 t, .int .u64 v]] w fun e w' => e = .returned (.agg (aggOne t v).cells) ∧ Below w.heap.size w w' := by
  go_enter Try.func39, Try.ntmps39
  go_wp2
  exact bodyPost_ret (results_cell_row Try.results39 _ _ (w.heap.size + 1) 50 (aggOne t v).cells (0, 0) _ rfl (by have h := heap_alloc_new (w.alloc (.cells #[.int .i64 t, .int .u64 v] 48)) (.cells (aggOne t v).cells 50); rw [World.size_alloc] at h; exact h) Try.underlying50 rfl (by kernel_rfl)) rfl ⟨rfl, below_alloc2 _ _ _⟩

theorem add64_run (x y c : Nat) (hc : c ≤ 1) (w : World) :
    (callFunc 51 #[.int .u64 x, .int .u64 y, .int .u64 c]).run Try.prog w =
      .ok (.value (.tuple #[.int .u64 (((x + y + c) % 18446744073709551616 : Nat) : Int), .int .u64 (((x + y + c) / 18446744073709551616 : Nat) : Int)])) w := by
  rw [run_callFunc_extern Try.func51 (by kernel_rfl) (by kernel_rfl) (by kernel_rfl) (e := add64Entry) (by kernel_rfl), run_add64 x y c (by omega) (by omega) (by omega) (by omega)]
  simp only [Result.andThen]
  congr 5 <;> omega

theorem Blk.nine {w : World} {g : Nat} {t : TypeId} {a0 a1 a2 a3 a4 a5 a6 a7 a8 : Value} (h : Blk w g t #[a0, a1, a2, a3, a4, a5, a6, a7, a8]) :
    w.cell? ⟨g, 0, none⟩ = some a0 ∧ w.cell? ⟨g, 1, none⟩ = some a1 ∧ w.cell? ⟨g, 2, none⟩ = some a2 ∧ w.cell? ⟨g, 3, none⟩ = some a3 ∧ w.cell? ⟨g, 4, none⟩ = some a4 ∧ w.cell? ⟨g, 5, none⟩ = some a5 ∧ w.cell? ⟨g, 6, none⟩ = some a6 ∧ w.cell? ⟨g, 7, none⟩ = some a7 ∧ w.cell? ⟨g, 8, none⟩ = some a8 :=
  ⟨h.cell 0, h.cell 1, h.cell 2, h.cell 3, h.cell 4, h.cell 5, h.cell 6, h.cell 7, h.cell 8⟩
theorem three_boxes (w : World) (A B C : Array Value) (t : TypeId) : Blk (((w.alloc (.cells A t)).alloc (.cells B t)).alloc (.cells C t)) (w.heap.size + 2) t C := by
  have h := Blk.new ((w.alloc (.cells A t)).alloc (.cells B t)) t C
  rw [World.size_alloc, World.size_alloc] at h
  exact h
theorem below_alloc3 (w : World) (o o' o'' : Obj) : Below w.heap.size w (((w.alloc o).alloc o').alloc o'') := (below_alloc2 w o o').alloc (by simp; omega) o''

theorem ret_agg {x : Value} {a0 a1 a2 a3 a4 a5 a6 a7 a8 b0 b1 b2 b3 b4 b5 b6 b7 b8 : Int} (h0 : a0 = b0) (h1 : a1 = b1) (h2 : a2 = b2) (h3 : a3 = b3) (h4 : a4 = b4) (h5 : a5 = b5) (h6 : a6 = b6) (h7 : a7 = b7) (h8 : a8 = b8) :
    Ending.returned (.tuple #[.agg #[.int .u64 a0, .int .i64 a1, .int .u64 a2, .int .i64 a3, .int .u64 a4, .int .u64 a5, .int .u64 a6, .int .u64 a7, .int .u64 a8], x]) =
    .returned (.tuple #[.agg #[.int .u64 b0, .int .i64 b1, .int .u64 b2, .int .i64 b3, .int .u64 b4, .int .u64 b5, .int .u64 b6, .int .u64 b7, .int .u64 b8], x]) := by subst h0 h1 h2 h3 h4 h5 h6 h7 h8; rfl

set_option maxRecDepth 100000 in
set_option maxHeartbeats 2000000 in
theorem aggjoin_any (a b : AggD) (w : World) (ha : a.ok) (hb : b.ok) :
    Calls Try.prog 34 #[.agg a.cells, .agg b.cells] w fun e w' => e = .returned (.tuple #[.agg (aggJoin a b).1.cells, .int .u16 (aggJoin a b).2]) ∧ Below w.heap.size w w' := by
  obtain ⟨R, hR⟩ : ∃ R, R = aggJoin a b := ⟨_, rfl⟩
  rw [← hR]
  unfold aggJoin at hR
  obtain ⟨n, ft, fv, lt, lv, mn, mx, hi, lo⟩ := a
  obtain ⟨n', ft', fv', lt', lv', mn', mx', hi', lo'⟩ := b
  unfold AggD.ok at ha hb
  simp only at ha hb
  have HA := Lib.hid ha
  have HB := Lib.hid hb
  clear ha hb
  by_cases h0 : n = 0
  · rw [if_pos h0] at hR
    subst hR
    have hn0 : ((n : Int) == 0) = true := by rw [beq_iff_eq]; omega
    clear h0
    unfold AggD.cells
    go_enter Try.func34, Try.ntmps34
    go_wp2
    exact bodyPost_ret (results_row_tmp Try.results34 _ _ (w.heap.size + 2) 50 _ _ rfl (three_boxes _ _ _ _ _) Try.underlying50 rfl (by kernel_rfl) (.int .u16 0) rfl) rfl ⟨rfl, below_alloc3 _ _ _ _⟩
  · rw [if_neg h0] at hR
    have hn0 : ((n : Int) == 0) = false := by rw [beq_eq_false_iff_ne]; omega
    clear h0
    by_cases h1 : n' = 0
    · rw [if_pos h1] at hR
      subst hR
      have hn1 : ((n' : Int) == 0) = true := by rw [beq_iff_eq]; omega
      clear h1
      unfold AggD.cells
      go_enter Try.func34, Try.ntmps34
      go_wp2
      exact bodyPost_ret (results_row_tmp Try.results34 _ _ (w.heap.size + 2) 50 _ _ rfl (three_boxes _ _ _ _ _) Try.underlying50 rfl (by kernel_rfl) (.int .u16 0) rfl) rfl ⟨rfl, below_alloc3 _ _ _ _⟩
    · rw [if_neg h1] at hR
      have hn1 : ((n' : Int) == 0) = false := by rw [beq_eq_false_iff_ne]; omega
      clear h1
      by_cases h2 : ft' ≤ lt
      · rw [if_pos h2] at hR
        subst hR
        unfold AggD.cells
        go_enter Try.func34, Try.ntmps34
        go_wp2
        exact bodyPost_ret (results_row_tmp Try.results34 _ _ (w.heap.size + 2) 50 _ _ rfl (three_boxes _ _ _ _ _) Try.underlying50 rfl (by kernel_rfl) (.int .u16 240) rfl) rfl ⟨rfl, below_alloc3 _ _ _ _⟩
      · rw [if_neg h2] at hR
        have h2' : lt < ft' := by omega
        obtain ⟨L, hL⟩ : ∃ L, L = (lo + lo') % 18446744073709551616 := ⟨_, rfl⟩
        obtain ⟨K, hK⟩ : ∃ K, K = (lo + lo') / 18446744073709551616 := ⟨_, rfl⟩
        obtain ⟨Hh, hH⟩ : ∃ H, H = (hi + hi' + K) % 18446744073709551616 := ⟨_, rfl⟩
        have hK1 : K ≤ 1 := by have := HA.out; have := HB.out; omega
        have q1 : ∀ w, (callFunc 51 #[.int .u64 lo, .int .u64 lo', .int .u64 0]).run Try.prog w = .ok (.value (.tuple #[.int .u64 L, .int .u64 K])) w := fun w => by
          have h := add64_run lo lo' 0 (by omega) w
          rw [Nat.add_zero, ← hL, ← hK] at h
          exact h
        have q2 : ∀ w, (callFunc 51 #[.int .u64 hi, .int .u64 hi', .int .u64 K]).run Try.prog w = .ok (.value (.tuple #[.int .u64 Hh, .int .u64 (((hi + hi' + K) / 18446744073709551616 : Nat) : Int)])) w := fun w => by
          have h := add64_run hi hi' K hK1 w
          rw [← hH] at h
          exact h
        have hR2 : Hid (R = (⟨(n + n') % 18446744073709551616, ft, fv, lt', lv', min mn mn', max mx mx', Hh, L⟩, 0)) := Lib.hid (by rw [hR]; unfold aggSum; simp only; rw [← hK, ← hH, ← hL])
        have hd : decide (ft' ≤ lt) = false := decide_eq_false h2
        have He1 : Hid (IntKind.u64.wrap ((n : Int) + n') = (((n + n') % 18446744073709551616 : Nat) : Int)) := Lib.hid (by rw [IntKind.wrap_u64]; omega)
        clear hR hL hK hH h2 hK1
        unfold AggD.cells
        go_enter Try.func34, Try.ntmps34
        go_wp2
        all_goals
          refine bodyPost_ret (results_row_tmp Try.results34 _ _ (w.heap.size + 2) 50 _ _ rfl (three_boxes _ _ _ _ _) Try.underlying50 rfl (by kernel_rfl) (.int .u16 0) rfl) rfl ⟨?_, below_alloc3 _ _ _ _⟩
          rw [hR2.out]
          exact ret_agg He1.out rfl rfl rfl rfl (by simp only; omega) (by simp only; omega) rfl rfl

end Go.Proofs.Ytdagegafanfhmaa
