/- AggJoins. -/
import Derived.Test.YtdagegafanfhmaaAgg8
import Derived.Test.YtdagegafanfhmaaAgg11
namespace Go.Proofs.Ytdagegafanfhmaa
open Go.RowKit

theorem one_lit (t : Int) (v : Nat) (w : World) : Calls Try.prog 38 #[.agg #[.int .i64 t, .int .u64 v]] w fun e w' => e = .returned (.agg #[.int .u64 1, .int .i64 t, .int .u64 v, .int .i64 t, .int .u64 v, .int .u64 v, .int .u64 v, .int .u64 0, .int .u64 v]) ∧ Below w.heap.size w w' := one_any t v w
theorem refOne_lit (t : Int) (v : Nat) (w : World) : Calls Try.prog 39 #[.agg #[.int .i64 t, .int .u64 v]] w fun e w' => e = .returned (.agg #[.int .u64 1, .int .i64 t, .int .u64 v, .int .i64 t, .int .u64 v, .int .u64 v, .int .u64 v, .int .u64 0, .int .u64 v]) ∧ Below w.heap.size w w' := refOne_any t v w
theorem three_boxes' (w : World) (A B C : Array Value) (t t' t'' : TypeId) : Blk (((w.alloc (.cells A t)).alloc (.cells B t')).alloc (.cells C t'')) (w.heap.size + 2) t'' C := by
  have h := Blk.new ((w.alloc (.cells A t)).alloc (.cells B t')) t'' C
  rw [World.size_alloc, World.size_alloc] at h
  exact h
theorem aggJoin_code2 (a b : AggD) : (aggJoin a b).2 = 0 ∨ (aggJoin a b).2 = 240 := by
  rcases aggJoin_code a b with h | ⟨h, _⟩
  · exact .inl h
  · exact .inr h

set_option maxRecDepth 100000 in
set_option maxHeartbeats 1000000 in
theorem aggJoins_walk (a b : AggD) (t : Int) (v : Nat) (w : World) (ha : a.ok) (hb : b.ok) :
    Calls Try.prog 11 #[.agg a.cells, .agg b.cells, .agg #[.int .i64 t, .int .u64 v]] w fun e w' => e = .returned (.bool true) ∧ Below w.heap.size w w' := by
  obtain ⟨J, hJ⟩ : ∃ J, J = aggJoin a b := ⟨_, rfl⟩
  have hc := aggJoin_code2 a b
  rw [← hJ] at hc
  have HJ := Lib.hid hJ
  have Ha := Lib.hid ha
  have Hb := Lib.hid hb
  have Hc := Lib.hid hc
  clear hJ ha hb hc
  obtain ⟨⟨jn, jft, jfv, jlt, jlv, jmn, jmx, jhi, jlo⟩, je⟩ := J
  obtain ⟨n, ft, fv, lt, lv, mn, mx, hi, lo⟩ := a
  obtain ⟨n', ft', fv', lt', lv', mn', mx', hi', lo'⟩ := b
  have kA := keepA
  have hcvt : IntKind.i64.wrap ((je : Nat) : Int) = ((je : Nat) : Int) := by rcases Hc.out with h | h <;> simp only at h <;> subst h <;> rfl
  have A0 : Blk (((w.alloc (.cells (AggD.cells ⟨n, ft, fv, lt, lv, mn, mx, hi, lo⟩) 50)).alloc (.cells (AggD.cells ⟨n', ft', fv', lt', lv', mn', mx', hi', lo'⟩) 50)).alloc (.cells #[.int .i64 t, .int .u64 v] 48)) w.heap.size 50 (AggD.cells ⟨n, ft, fv, lt, lv, mn, mx, hi, lo⟩) := ((Blk.new w _ _).alloc _).alloc _
  have B0 : Blk (((w.alloc (.cells (AggD.cells ⟨n, ft, fv, lt, lv, mn, mx, hi, lo⟩) 50)).alloc (.cells (AggD.cells ⟨n', ft', fv', lt', lv', mn', mx', hi', lo'⟩) 50)).alloc (.cells #[.int .i64 t, .int .u64 v] 48)) (w.heap.size + 1) 50 (AggD.cells ⟨n', ft', fv', lt', lv', mn', mx', hi', lo'⟩) := by
    have h := (Blk.new (w.alloc (.cells (AggD.cells ⟨n, ft, fv, lt, lv, mn, mx, hi, lo⟩) 50)) 50 (AggD.cells ⟨n', ft', fv', lt', lv', mn', mx', hi', lo'⟩)).alloc (.cells #[.int .i64 t, .int .u64 v] 48)
    rw [World.size_alloc] at h
    exact h
  have S0 : Blk (((w.alloc (.cells (AggD.cells ⟨n, ft, fv, lt, lv, mn, mx, hi, lo⟩) 50)).alloc (.cells (AggD.cells ⟨n', ft', fv', lt', lv', mn', mx', hi', lo'⟩) 50)).alloc (.cells #[.int .i64 t, .int .u64 v] 48)) (w.heap.size + 2) 48 #[.int .i64 t, .int .u64 v] := three_boxes' _ _ _ _ _ _ _
  have T0 : Below w.heap.size w (((w.alloc (.cells (AggD.cells ⟨n, ft, fv, lt, lv, mn, mx, hi, lo⟩) 50)).alloc (.cells (AggD.cells ⟨n', ft', fv', lt', lv', mn', mx', hi', lo'⟩) 50)).alloc (.cells #[.int .i64 t, .int .u64 v] 48)) := below_alloc3 _ _ _ _
  unfold AggD.cells at A0 B0 S0 T0 ⊢
  simp only at A0 B0 S0 T0 ⊢
  go_enter Try.func11, Try.ntmps11
  go_wp2_with fail
  refine (aggjoin_as ⟨n, ft, fv, lt, lv, mn, mx, hi, lo⟩ ⟨n', ft', fv', lt', lv', mn', mx', hi', lo'⟩ _ _ HJ.out Ha.out Hb.out).mono ?_
  rintro e w1 ⟨rfl, hb1⟩
  have A1 := A0.go hb1
  have B1 := B0.go hb1
  have S1 := S0.go hb1
  have t1 := on T0 hb1
  have a1 := A1.nine
  have b1 := B1.nine
  clear A0 B0 S0 T0 hb1
  go_wp2_with fail
  refine (refAggjoin_as ⟨n, ft, fv, lt, lv, mn, mx, hi, lo⟩ ⟨n', ft', fv', lt', lv', mn', mx', hi', lo'⟩ _ _ HJ.out Ha.out Hb.out).mono ?_
  rintro e w2 ⟨rfl, hb2⟩
  have A2 := A1.go hb2
  have S2 := S1.go hb2
  have J2 := (Blk.new w1 50 #[.int .u64 jn, .int .i64 jft, .int .u64 jfv, .int .i64 jlt, .int .u64 jlv, .int .u64 jmn, .int .u64 jmx, .int .u64 jhi, .int .u64 jlo]).go hb2
  have t2 := on t1 hb2
  have a2 := A2.nine
  clear A1 B1 S1 t1 a1 b1 hb2
  go_wp2_with fail
  refine (mean_any n ft fv lt lv mn mx hi lo _ Ha.out.1 Ha.out.2.2.2.2.2.2.2.1 Ha.out.2.2.2.2.2.2.2.2).mono ?_
  rintro e w3 ⟨m1, m2, HM1, rfl, hb3⟩
  have A3 := A2.go hb3
  have S3 := S2.go hb3
  have J3 := J2.go hb3
  have K3 := (Blk.new w2 50 #[.int .u64 jn, .int .i64 jft, .int .u64 jfv, .int .i64 jlt, .int .u64 jlv, .int .u64 jmn, .int .u64 jmx, .int .u64 jhi, .int .u64 jlo]).go hb3
  have t3 := on t2 hb3
  have a3 := A3.nine
  clear A2 S2 J2 t2 a2 hb3
  go_wp2_with fail
  refine (refMean_any n ft fv lt lv mn mx hi lo _ Ha.out.1 Ha.out.2.2.2.2.2.2.2.1 Ha.out.2.2.2.2.2.2.2.2).mono ?_
  rintro e w4 ⟨m3, m4, HM3, rfl, hb4⟩
  obtain ⟨rfl, rfl⟩ : m3 = m1 ∧ m4 = m2 := by
    have h := HM3.out.symm.trans HM1.out
    simpa using h
  have S4 := (S3.go hb4).duo
  have J4 := (J3.go hb4).nine
  have K4 := (K3.go hb4).nine
  have t4 := on t3 hb4
  have s4 := S4.1
  clear A3 S3 J3 K3 t3 a3 hb4 S4 HM3 HM1
  have hp := plus_cell w4
  go_wp2_with fail
  refine wp_region_ext (by kernel_rfl) (by kernel_rfl) ?_
  repeat (go_big_quiet_step (first
    | (go_at_call 31; exact ext_of (known_any _))
    | (go_at_call 38; exact ext_of (one_lit t v _))
    | (go_at_call 39; exact ext_of (refOne_lit t v _))))
  refine wpQuiet_nil ?_
  rintro w7 ⟨x, rfl⟩
  go_wp2
  go_ret
  exact ⟨rfl, on1 t4 (plus_below _ _)⟩

end Go.Proofs.Ytdagegafanfhmaa
