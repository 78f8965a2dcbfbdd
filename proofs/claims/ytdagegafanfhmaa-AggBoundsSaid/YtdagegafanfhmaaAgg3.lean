/- Contracts of package agg and of the document's own functions of layer 24: Of. -/
import Derived.Test.YtdagegafanfhmaaAgg2
import Derived.Test.YtdagegafanfhmaaNine
import Derived.Test.YtdagegafanfhmaaSmp
import Derived.Deep.RegionWith
import Derived.Deep.DeepCutAuto
namespace Go.Proofs.Ytdagegafanfhmaa
open Go.RowKit

def aggStep (r : AggD × Nat) (s : Int × Nat) : AggD × Nat := if r.2 = 0 then aggJoin r.1 (aggOne s.1 s.2) else (aggNil, 240)
def aggOf (l : List (Int × Nat)) : AggD × Nat := l.foldl aggStep (aggNil, 0)

theorem aggNil_ok : aggNil.ok := by unfold AggD.ok aggNil; simp
theorem aggOne_ok {t : Int} {v : Nat} (ht : -9223372036854775808 ≤ t ∧ t ≤ 9223372036854775807) (hv : v < 18446744073709551616) : (aggOne t v).ok := by unfold AggD.ok aggOne; simp only; omega
theorem aggJoin_ok {a b : AggD} (ha : a.ok) (hb : b.ok) : (aggJoin a b).1.ok := by
  unfold aggJoin
  split
  · exact hb
  · split
    · exact ha
    · split
      · exact aggNil_ok
      · unfold AggD.ok at *; unfold aggSum; simp only; omega
theorem aggJoin_code (a b : AggD) : (aggJoin a b).2 = 0 ∨ ((aggJoin a b).2 = 240 ∧ (aggJoin a b).1 = aggNil) := by
  unfold aggJoin
  split
  · exact .inl rfl
  · split
    · exact .inl rfl
    · split
      · exact .inr ⟨rfl, rfl⟩
      · exact .inl rfl
theorem aggOf_snoc (l : List (Int × Nat)) (k : Nat) (h : k < l.length) : aggOf (l.take (k + 1)) = aggStep (aggOf (l.take k)) l[k] := by
  unfold aggOf
  rw [List.take_succ_eq_append_getElem h, List.foldl_append]
  rfl
theorem aggOf_bad (l : List (Int × Nat)) (r : AggD × Nat) (h : r = (aggNil, 240)) : l.foldl aggStep r = (aggNil, 240) := by
  induction l generalizing r with
  | nil => exact h
  | cons s l ih =>
    rw [List.foldl_cons]
    exact ih _ (by subst h; rfl)
theorem aggOf_end (l : List (Int × Nat)) (k : Nat) (h : aggOf (l.take k) = (aggNil, 240)) : aggOf l = (aggNil, 240) := by
  conv => lhs; rw [← List.take_append_drop k l]
  unfold aggOf at *
  rw [List.foldl_append]
  exact aggOf_bad _ _ h

theorem aggjoin_as (a b : AggD) (J : AggD × Nat) (w : World) (hJ : J = aggJoin a b) (ha : a.ok) (hb : b.ok) :
    Calls Try.prog 34 #[.agg a.cells, .agg b.cells] w fun e w' => e = .returned (.tuple #[.agg #[.int .u64 J.1.n, .int .i64 J.1.ft, .int .u64 J.1.fv, .int .i64 J.1.lt, .int .u64 J.1.lv, .int .u64 J.1.mn, .int .u64 J.1.mx, .int .u64 J.1.hi, .int .u64 J.1.lo], .int .u16 J.2]) ∧ Below w.heap.size w w' := by
  subst hJ; exact aggjoin_any a b w ha hb
theorem nineB {w W w' : World} [u : Up w W] {g : Nat} {a0 a1 a2 a3 a4 a5 a6 a7 a8 : Value} (h : Below W.heap.size W w')
    (c : w.cell? ⟨g, 0, none⟩ = some a0 ∧ w.cell? ⟨g, 1, none⟩ = some a1 ∧ w.cell? ⟨g, 2, none⟩ = some a2 ∧ w.cell? ⟨g, 3, none⟩ = some a3 ∧ w.cell? ⟨g, 4, none⟩ = some a4 ∧ w.cell? ⟨g, 5, none⟩ = some a5 ∧ w.cell? ⟨g, 6, none⟩ = some a6 ∧ w.cell? ⟨g, 7, none⟩ = some a7 ∧ w.cell? ⟨g, 8, none⟩ = some a8) :
    w'.cell? ⟨g, 0, none⟩ = some a0 ∧ w'.cell? ⟨g, 1, none⟩ = some a1 ∧ w'.cell? ⟨g, 2, none⟩ = some a2 ∧ w'.cell? ⟨g, 3, none⟩ = some a3 ∧ w'.cell? ⟨g, 4, none⟩ = some a4 ∧ w'.cell? ⟨g, 5, none⟩ = some a5 ∧ w'.cell? ⟨g, 6, none⟩ = some a6 ∧ w'.cell? ⟨g, 7, none⟩ = some a7 ∧ w'.cell? ⟨g, 8, none⟩ = some a8 :=
  ⟨cel h c.1, cel h c.2.1, cel h c.2.2.1, cel h c.2.2.2.1, cel h c.2.2.2.2.1, cel h c.2.2.2.2.2.1, cel h c.2.2.2.2.2.2.1, cel h c.2.2.2.2.2.2.2.1, cel h c.2.2.2.2.2.2.2.2⟩
theorem Blk.nineFz {w : World} {g : Nat} {t : TypeId} {cs : Array Value} (h : Blk w g t cs) : ∀ i, w.frozen? ⟨g, i, none⟩ = false := fun i => h.frozen i
theorem Blk.nineG {w : World} {g : Nat} {t : TypeId} {cs : Array Value} (b : Blk w g t cs) : w.frozen? ⟨g, 0, none⟩ = false ∧ w.frozen? ⟨g, 1, none⟩ = false ∧ w.frozen? ⟨g, 2, none⟩ = false ∧ w.frozen? ⟨g, 3, none⟩ = false ∧ w.frozen? ⟨g, 4, none⟩ = false ∧
    w.frozen? ⟨g, 5, none⟩ = false ∧ w.frozen? ⟨g, 6, none⟩ = false ∧ w.frozen? ⟨g, 7, none⟩ = false ∧ w.frozen? ⟨g, 8, none⟩ = false := ⟨b.frozen 0, b.frozen 1, b.frozen 2, b.frozen 3, b.frozen 4, b.frozen 5, b.frozen 6, b.frozen 7, b.frozen 8⟩
theorem nineF {w W w1 W1 w2 : World} [u : Up w W] [u1 : Up w1 W1] {g : Nat} {t : TypeId} {a0 a1 a2 a3 a4 a5 a6 a7 a8 : Value} (h : Below W.heap.size W w1) (k : Below W1.heap.size W1 w2) (b : Blk w g t #[a0, a1, a2, a3, a4, a5, a6, a7, a8]) :
    (w2.cell? ⟨g, 0, none⟩ = some a0 ∧ w2.cell? ⟨g, 1, none⟩ = some a1 ∧ w2.cell? ⟨g, 2, none⟩ = some a2 ∧ w2.cell? ⟨g, 3, none⟩ = some a3 ∧ w2.cell? ⟨g, 4, none⟩ = some a4 ∧ w2.cell? ⟨g, 5, none⟩ = some a5 ∧ w2.cell? ⟨g, 6, none⟩ = some a6 ∧ w2.cell? ⟨g, 7, none⟩ = some a7 ∧ w2.cell? ⟨g, 8, none⟩ = some a8) ∧
    (w2.frozen? ⟨g, 0, none⟩ = false ∧ w2.frozen? ⟨g, 1, none⟩ = false ∧ w2.frozen? ⟨g, 2, none⟩ = false ∧ w2.frozen? ⟨g, 3, none⟩ = false ∧ w2.frozen? ⟨g, 4, none⟩ = false ∧ w2.frozen? ⟨g, 5, none⟩ = false ∧ w2.frozen? ⟨g, 6, none⟩ = false ∧ w2.frozen? ⟨g, 7, none⟩ = false ∧ w2.frozen? ⟨g, 8, none⟩ = false) := by
  have q := (b.go (u := u) h).go (u := u1) k
  exact ⟨q.nine, q.frozen 0, q.frozen 1, q.frozen 2, q.frozen 3, q.frozen 4, q.frozen 5, q.frozen 6, q.frozen 7, q.frozen 8⟩

set_option maxRecDepth 100000 in
set_option maxHeartbeats 2000000 in
theorem aggof_any (V : Option Addr) (c : Nat) (l : List (Int × Nat)) (w : World) (hV : Ss w V l) (hs : okS l) (hl : l.length ≤ 4294967296) :
    Calls Try.prog 33 #[.slice V l.length c] w fun e w' => e = .returned (.tuple #[.agg (aggOf l).1.cells, .int .u16 (aggOf l).2]) ∧ Below w.heap.size w w' := by
  have HS := Lib.hid hs
  clear hs
  have A0 : Blk ((w.alloc (.cells aggNil.cells 50)).alloc (.cells aggNil.cells 50)) (w.heap.size + 1) 50 aggNil.cells := by
    have h := Blk.new (w.alloc (.cells aggNil.cells 50)) 50 aggNil.cells
    rw [World.size_alloc] at h
    exact h
  go_enter Try.func33, Try.ntmps33
  go_wp2_with fail
  go_loopw [10] (fun i wr => ∃ (k : Nat) (a : AggD), k ≤ l.length ∧ i = .int .i64 k ∧ Hid (aggOf (l.take k) = (a, 0)) ∧ Hid a.ok ∧ Blk wr (w.heap.size + 1) 50 a.cells ∧ Below (w.heap.size + 1) (w.alloc (.cells aggNil.cells 50)) wr)
    (fun i _ => l.length - (intOf i).toNat)
  case atStart => exact ⟨0, aggNil, Nat.zero_le _, rfl, Lib.hid rfl, Lib.hid aggNil_ok, A0, (Below.refl _ _).alloc (by simp) _⟩
  case round =>
    obtain ⟨k, a, hk, rfl, HA, Hok, HB, hbel⟩ := hrel
    by_cases hlt : k < l.length
    · obtain ⟨p, o, rfl, h1, h2⟩ := hV k l[k] (List.getElem?_eq_getElem hlt)
      have hpl := cell_lt h1
      have g1 : wr.cell? ⟨p, o + k * 2, none⟩ = some (.int .i64 l[k].1) := by rw [hbel.cell (Nat.lt_succ_of_lt hpl), World.cell?_alloc_lt _ _ _ hpl]; exact h1
      have g2 : wr.cell? ⟨p, o + k * 2 + 1, none⟩ = some (.int .u64 l[k].2) := by rw [hbel.cell (Nat.lt_succ_of_lt (cell_lt h2)), World.cell?_alloc_lt _ _ _ (cell_lt h2)]; exact h2
      have hsk := HS.out l[k] (List.getElem_mem hlt)
      have hstep := aggOf_snoc l k hlt
      rw [HA.out] at hstep
      obtain ⟨s, hs⟩ : ∃ s, s = l[k] := ⟨_, rfl⟩
      rw [← hs] at g1 g2 hsk hstep
      obtain ⟨t, v⟩ := s
      simp only at g1 g2 hsk
      have Hst := Lib.hid hstep
      clear hstep h1 h2 hs
      obtain ⟨n, ft, fv, lt, lv, mn, mx, hi, lo⟩ := a
      have hJ := aggJoin_code ⟨n, ft, fv, lt, lv, mn, mx, hi, lo⟩ (aggOne t v)
      have hJok := aggJoin_ok Hok.out (aggOne_ok hsk.1 hsk.2)
      obtain ⟨J, hJe⟩ : ∃ J, J = aggJoin ⟨n, ft, fv, lt, lv, mn, mx, hi, lo⟩ (aggOne t v) := ⟨_, rfl⟩
      rw [← hJe] at hJ hJok
      have Hst2 : Hid (aggOf (l.take (k + 1)) = J) := Lib.hid (by rw [Hst.out, hJe]; rfl)
      have HJe := Lib.hid hJe
      have HJ := Lib.hid hJ
      have HJok := Lib.hid hJok
      clear hJ hJok hJe Hst
      have HB1 := HB.alloc (.cells #[.int .i64 t, .int .u64 v] 48)
      have q1 := (Blk.new wr 48 #[.int .i64 t, .int .u64 v]).duo.1
      have c9 := HB1.nine
      have sx := HB.lt
      have hp := plus_cell (wr.alloc (.cells #[.int .i64 t, .int .u64 v] 48))
      go_wp2_with fail
      go_upto_region 6 with fail
      go_cut [7] (fun s7 wx => s7 = .int .u16 J.2 ∧ Blk wx (w.heap.size + 1) 50 J.1.cells ∧ Below (w.heap.size + 1) (w.alloc (.cells aggNil.cells 50)) wx)
      case first =>
        go_region_with (first
            | (go_at_call 38; refine (one_any t v _).mono ?_; rintro e w1 ⟨rfl, hb1⟩; have d9 := nineB hb1 c9)
            | (go_at_call 34; refine (aggjoin_as ⟨n, ft, fv, lt, lv, mn, mx, hi, lo⟩ (aggOne t v) J _ HJe.out Hok.out (aggOne_ok hsk.1 hsk.2)).mono ?_; rintro e w2 ⟨rfl, hb2⟩; have F9 := nineF hb1 hb2 HB1))
        all_goals
          go_wp2_with fail
          go_meet
          exact ⟨rfl, Blk.set9 ((HB1.go hb1).go hb2) _ _ _ _ _ _ _ _ _, below_set9 (((hbel.alloc (by omega) _).trans ((go1 (w := wr.alloc (.cells #[.int .i64 t, .int .u64 v] 48)) hb1).mono (by simp; omega))).trans (hb2.mono (by have := hb1.size; simp at this; omega))) (Nat.le_refl _) _ _ _ _ _ _ _ _ _⟩
      case rest =>
        obtain ⟨rfl, HB3, hbel3⟩ := hcut
        rcases HJ.out with h0 | ⟨h0, hn0⟩
        · have hj0 : ((J.2 : Int) != 0) = false := by rw [h0]; rfl
          have H0 := Lib.hid h0
          clear h0
          go_wp2
          go_roundw
          case measure => simp [intOf]; omega
          case rel => exact ⟨k + 1, J.1, by omega, by go_num, Lib.hid (by rw [Hst2.out, ← H0.out]), HJok, HB3, hbel3⟩
        · have hj0 : ((J.2 : Int) != 0) = true := by rw [h0]; rfl
          have hend : aggOf l = (aggNil, 240) := aggOf_end l (k + 1) (by rw [Hst2.out, ← h0, ← hn0])
          have R := (Blk.new w 50 aggNil.cells).below hbel3 (Nat.lt_succ_self _)
          have r9 := R.nine
          have rf := Blk.nineG R
          have Hend := Lib.hid hend
          have H0 := Lib.hid h0
          clear hend h0 hn0
          go_wp2
          refine bodyPost_ret (results_row_tmp Try.results33 _ _ w.heap.size 50 _ _ rfl (Blk.set9 R _ _ _ _ _ _ _ _ _) Try.underlying50 rfl (by kernel_rfl) (.int .u16 J.2) rfl) rfl ⟨by rw [Hend.out, H0.out]; rfl, ?_⟩
          exact below_set9 ((below_alloc _ _).trans (hbel3.mono (by omega))) (Nat.le_refl _) _ _ _ _ _ _ _ _ _
    · obtain rfl : k = l.length := by omega
      rw [List.take_length] at HA
      have R := (Blk.new w 50 aggNil.cells).below hbel (Nat.lt_succ_self _)
      have r9 := R.nine
      have rf := Blk.nineG R
      obtain ⟨n, ft, fv, lt, lv, mn, mx, hi, lo⟩ := a
      have b9 := HB.nine
      go_wp2
      refine bodyPost_ret (results_row_tmp Try.results33 _ _ w.heap.size 50 _ _ rfl (Blk.set9 R _ _ _ _ _ _ _ _ _) Try.underlying50 rfl (by kernel_rfl) (.int .u16 0) rfl) rfl ⟨by rw [HA.out]; rfl, ?_⟩
      exact below_set9 ((below_alloc _ _).trans (hbel.mono (by omega))) (Nat.le_refl _) _ _ _ _ _ _ _ _ _

end Go.Proofs.Ytdagegafanfhmaa
