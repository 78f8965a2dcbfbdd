/- Contracts of the document's own functions of layer 24: Of. -/
import Derived.Test.YtdagegafanfhmaaAgg3
namespace Go.Proofs.Ytdagegafanfhmaa
open Go.RowKit

local notation "nil9" => (#[Value.int IntKind.u64 0, Value.int IntKind.i64 0, Value.int IntKind.u64 0, Value.int IntKind.i64 0, Value.int IntKind.u64 0, Value.int IntKind.u64 0, Value.int IntKind.u64 0, Value.int IntKind.u64 0, Value.int IntKind.u64 0] : Array Value)

theorem onB {B : Nat} {w0 w' W w2 : World} (t : Below B w0 w') (hB : B ≤ w'.heap.size) [u : Up w' W] (h : Below W.heap.size W w2) : Below B w0 w2 := (t.trans (u.below.mono hB)).trans (h.mono (Nat.le_trans hB u.below.size))
theorem szB {B : Nat} {w' W w2 : World} (hB : B < w'.heap.size) [u : Up w' W] (h : Below W.heap.size W w2) : B < w2.heap.size := Nat.lt_of_lt_of_le hB (go1 h).size
theorem Blk.far9 {w : World} {g g' : Nat} {t : TypeId} {cs : Array Value} (h : Blk w g t cs) (n : g ≠ g') (a0 a1 a2 a3 a4 a5 a6 a7 a8 : Value) :
    Blk (((((((((w.setCell ⟨g', 0, none⟩ a0).setCell ⟨g', 1, none⟩ a1).setCell ⟨g', 2, none⟩ a2).setCell ⟨g', 3, none⟩ a3).setCell ⟨g', 4, none⟩ a4).setCell ⟨g', 5, none⟩ a5).setCell ⟨g', 6, none⟩ a6).setCell ⟨g', 7, none⟩ a7).setCell ⟨g', 8, none⟩ a8) g t cs :=
  ((((((((h.far _ _ n).far _ _ n).far _ _ n).far _ _ n).far _ _ n).far _ _ n).far _ _ n).far _ _ n).far _ _ n

theorem refAggjoin_as (a b : AggD) (J : AggD × Nat) (w : World) (hJ : J = aggJoin a b) (ha : a.ok) (hb : b.ok) :
    Calls Try.prog 35 #[.agg a.cells, .agg b.cells] w fun e w' => e = .returned (.tuple #[.agg #[.int .u64 J.1.n, .int .i64 J.1.ft, .int .u64 J.1.fv, .int .i64 J.1.lt, .int .u64 J.1.lv, .int .u64 J.1.mn, .int .u64 J.1.mx, .int .u64 J.1.hi, .int .u64 J.1.lo], .int .i64 J.2]) ∧ Below w.heap.size w w' := by
  subst hJ; exact refAggjoin_any a b w ha hb

set_option maxRecDepth 100000 in
set_option maxHeartbeats 8000000 in
theorem refAggof_any (V : Option Addr) (c : Nat) (l : List (Int × Nat)) (w : World) (hV : Ss w V l) (hs : okS l) (hl : l.length ≤ 4294967296) :
    Calls Try.prog 40 #[.slice V l.length c] w fun e w' => e = .returned (.tuple #[.agg (aggOf l).1.cells, .int .i64 (aggOf l).2]) ∧ Below w.heap.size w w' := by
  have HS := Lib.hid hs
  clear hs
  have A0 : Blk ((w.alloc (.cells aggNil.cells 50)).alloc (.cells aggNil.cells 50)) (w.heap.size + 1) 50 aggNil.cells := by
    have h := Blk.new (w.alloc (.cells aggNil.cells 50)) 50 aggNil.cells
    rw [World.size_alloc] at h
    exact h
  go_enter Try.func40, Try.ntmps40
  go_wp2_with fail
  go_loopw [5] (fun i wr => ∃ (k : Nat) (a : AggD), k ≤ l.length ∧ i = .int .i64 k ∧ Hid (aggOf (l.take k) = (a, 0)) ∧ Hid a.ok ∧ Blk wr (w.heap.size + 1) 50 a.cells ∧ Below (w.heap.size + 1) (w.alloc (.cells aggNil.cells 50)) wr)
    (fun i _ => l.length - (intOf i).toNat)
  case atStart => exact ⟨0, aggNil, Nat.zero_le _, rfl, Lib.hid rfl, Lib.hid aggNil_ok, by first | exact A0 | exact Blk.set9 A0 _ _ _ _ _ _ _ _ _, by first | exact (Below.refl _ _).alloc (by simp) _ | exact below_set9 ((Below.refl _ _).alloc (by simp) _) (Nat.le_refl _) _ _ _ _ _ _ _ _ _⟩
  case round =>
    obtain ⟨k, a, hk, rfl, HA, Hok, HB, hbel⟩ := hrel
    by_cases hlt : k < l.length
    · obtain ⟨p, o, rfl, h1, h2⟩ := hV k l[k] (List.getElem?_eq_getElem hlt)
      have hpl := cell_lt h1
      have g1 : wr.cell? ⟨p, o + k * 2, none⟩ = some (.int .i64 l[k].1) := by rw [hbel.cell (Nat.lt_succ_of_lt hpl), World.cell?_alloc_lt _ _ _ hpl]; exact h1
      have g2 : wr.cell? ⟨p, o + k * 2 + 1, none⟩ = some (.int .u64 l[k].2) := by rw [hbel.cell (Nat.lt_succ_of_lt (cell_lt h2)), World.cell?_alloc_lt _ _ _ (cell_lt h2)]; exact h2
      have hsk := HS.out l[k] (List.getElem_mem hlt)
      have hstep := aggOf_snoc l k hlt
      rw [HA.out] at hstep
      obtain ⟨s, hs⟩ : ∃ s, s = l[k] := ⟨_, rfl⟩
      rw [← hs] at g1 g2 hsk hstep
      obtain ⟨t, v⟩ := s
      simp only at g1 g2 hsk
      have Hst := Lib.hid hstep
      clear hstep h1 h2 hs
      obtain ⟨n, ft, fv, lt, lv, mn, mx, hi, lo⟩ := a
      have hJ := aggJoin_code ⟨n, ft, fv, lt, lv, mn, mx, hi, lo⟩ (aggOne t v)
      have hJok := aggJoin_ok Hok.out (aggOne_ok hsk.1 hsk.2)
      obtain ⟨J, hJe⟩ : ∃ J, J = aggJoin ⟨n, ft, fv, lt, lv, mn, mx, hi, lo⟩ (aggOne t v) := ⟨_, rfl⟩
      rw [← hJe] at hJ hJok
      have Hst2 : Hid (aggOf (l.take (k + 1)) = J) := Lib.hid (by rw [Hst.out, hJe]; rfl)
      have HJe := Lib.hid hJe
      have HJ := Lib.hid hJ
      have HJok := Lib.hid hJok
      clear hJ hJok hJe Hst
      have c9 := HB.nine
      have sx := HB.lt
      have hp := plus_cell wr
      have kA := keepA
      go_wp2_with fail
      go_upto_region 5 with fail
      go_cut [6, 7] (fun s6 s7 wx => ∃ g, s6 = .pointer (some ⟨g, 0, none⟩) ∧ s7 = .int .i64 J.2 ∧ Blk wx g 50 #[.int .u64 J.1.n, .int .i64 J.1.ft, .int .u64 J.1.fv, .int .i64 J.1.lt, .int .u64 J.1.lv, .int .u64 J.1.mn, .int .u64 J.1.mx, .int .u64 J.1.hi, .int .u64 J.1.lo] ∧ w.heap.size + 1 < g ∧ Blk wx (w.heap.size + 1) 50 (AggD.cells ⟨n, ft, fv, lt, lv, mn, mx, hi, lo⟩) ∧ Below (w.heap.size + 1) (w.alloc (.cells aggNil.cells 50)) wx)
      case first =>
        go_region_with (first
            | (go_at_call 39; refine (refOne_any t v _).mono ?_; rintro e w1 ⟨rfl, hb1⟩; have T1 := onB hbel (Nat.le_of_lt sx) hb1; have z1 := szB sx hb1; have d9 := (HB.go hb1).nine; try have Y1 := (Blk.new wr 50 nil9).drew.go hb1)
            | (go_at_call 35; refine (refAggjoin_as ⟨n, ft, fv, lt, lv, mn, mx, hi, lo⟩ (aggOne t v) J _ HJe.out Hok.out (aggOne_ok hsk.1 hsk.2)).mono ?_; rintro e w2 ⟨rfl, hb2⟩; have T2 := onB T1 (Nat.le_of_lt z1) hb2; have z2 := szB z1 hb2
               have F := (HB.go hb1).go hb2; have F9 := F.nine; have F0 := Blk.nineG F; (first | have Y := Y1.go hb2 | have Y := (Blk.new w1 50 nil9).go hb2 | skip); try have Y9 := Y.nine; try have Y0 := Blk.nineG Y))
        all_goals
          go_wp2_with fail
          go_meet
          first
            | with_reducible exact ⟨_, rfl, rfl, Blk.new w2 _ _, z2, F.alloc _, T2.alloc (Nat.le_of_lt z2) _⟩
            | with_reducible exact ⟨_, rfl, rfl, Blk.set9 Y _ _ _ _ _ _ _ _ _, sx, F.far9 (Nat.ne_of_lt sx) _ _ _ _ _ _ _ _ _, below_set9 T2 (Nat.le_of_lt sx) _ _ _ _ _ _ _ _ _⟩
            | with_reducible exact ⟨_, rfl, rfl, Blk.set9 Y _ _ _ _ _ _ _ _ _, z1, F.far9 (Nat.ne_of_lt z1) _ _ _ _ _ _ _ _ _, below_set9 T2 (Nat.le_of_lt z1) _ _ _ _ _ _ _ _ _⟩
      case rest =>
        obtain ⟨g, rfl, rfl, HG, hgl, HB3, hbel3⟩ := hcut
        rcases HJ.out with h0 | ⟨h0, hn0⟩
        · have hj0 : ((J.2 : Int) != 0) = false := by rw [h0]; rfl
          have H0 := Lib.hid h0
          have G9 := HG.nine
          have b9 := HB3.nine
          have bf := Blk.nineG HB3
          clear h0
          go_wp2
          go_roundw
          case measure => simp [intOf]; omega
          case rel => exact ⟨k + 1, J.1, by omega, by go_num, Lib.hid (by rw [Hst2.out, ← H0.out]), HJok, Blk.set9 HB3 _ _ _ _ _ _ _ _ _, below_set9 hbel3 (Nat.le_refl _) _ _ _ _ _ _ _ _ _⟩
        · have hj0 : ((J.2 : Int) != 0) = true := by rw [h0]; rfl
          have hend : aggOf l = (aggNil, 240) := aggOf_end l (k + 1) (by rw [Hst2.out, ← h0, ← hn0])
          have R := (Blk.new w 50 aggNil.cells).below hbel3 (Nat.lt_succ_self _)
          have r9 := R.nine
          have rf := Blk.nineG R
          have Hend := Lib.hid hend
          have H0 := Lib.hid h0
          clear hend h0 hn0
          go_wp2
          refine bodyPost_ret (results_row_tmp Try.results40 _ _ w.heap.size 50 _ _ rfl (Blk.set9 R _ _ _ _ _ _ _ _ _) Try.underlying50 rfl (by kernel_rfl) (.int .i64 J.2) rfl) rfl ⟨by rw [Hend.out, H0.out]; rfl, ?_⟩
          exact below_set9 ((below_alloc _ _).trans (hbel3.mono (by omega))) (Nat.le_refl _) _ _ _ _ _ _ _ _ _
    · obtain rfl : k = l.length := by omega
      rw [List.take_length] at HA
      have R := (Blk.new w 50 aggNil.cells).below hbel (Nat.lt_succ_self _)
      have r9 := R.nine
      have rf := Blk.nineG R
      obtain ⟨n, ft, fv, lt, lv, mn, mx, hi, lo⟩ := a
      have b9 := HB.nine
      go_wp2
      refine bodyPost_ret (results_row_tmp Try.results40 _ _ w.heap.size 50 _ _ rfl (Blk.set9 R _ _ _ _ _ _ _ _ _) Try.underlying50 rfl (by kernel_rfl) (.int .i64 0) rfl) rfl ⟨by rw [HA.out]; rfl, ?_⟩
      exact below_set9 ((below_alloc _ _).trans (hbel.mono (by omega))) (Nat.le_refl _) _ _ _ _ _ _ _ _ _

end Go.Proofs.Ytdagegafanfhmaa
