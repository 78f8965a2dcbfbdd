/- AggAll. -/
import Derived.Test.YtdagegafanfhmaaAgg4
import Derived.Test.YtdagegafanfhmaaAgg6
namespace Go.Proofs.Ytdagegafanfhmaa
open Go.RowKit

theorem OwnS.at {w : World} {base n c : Nat} {A : Option Addr} {l : List (Int × Nat)} (h : OwnS w base (.slice A n c) l) : Ss w A l := by
  obtain ⟨A', c', hv, _, hs⟩ := OwnS.ss h
  injection hv with e1 e2 e3
  subst e1
  exact hs
theorem aggof_R (A : Option Addr) (c : Nat) (l : List (Int × Nat)) (n : Nat) (ft : Int) (fv : Nat) (lt : Int) (lv mn mx hi lo e0 : Nat) (hR : aggOf l = (⟨n, ft, fv, lt, lv, mn, mx, hi, lo⟩, e0)) (w : World) (hS : Ss w A l) (hs : okS l) (hl : l.length ≤ 4294967296) :
    Calls Try.prog 33 #[.slice A l.length c] w fun e w' => e = .returned (.tuple #[.agg #[.int .u64 n, .int .i64 ft, .int .u64 fv, .int .i64 lt, .int .u64 lv, .int .u64 mn, .int .u64 mx, .int .u64 hi, .int .u64 lo], .int .u16 e0]) ∧ Below w.heap.size w w' := by
  refine Calls.mono (aggof_any A c l w hS hs hl) ?_
  rintro e w' ⟨rfl, hb⟩
  rw [hR]
  exact ⟨rfl, hb⟩
theorem refAggof_R (A : Option Addr) (c : Nat) (l : List (Int × Nat)) (n : Nat) (ft : Int) (fv : Nat) (lt : Int) (lv mn mx hi lo e0 : Nat) (hR : aggOf l = (⟨n, ft, fv, lt, lv, mn, mx, hi, lo⟩, e0)) (w : World) (hS : Ss w A l) (hs : okS l) (hl : l.length ≤ 4294967296) :
    Calls Try.prog 40 #[.slice A l.length c] w fun e w' => e = .returned (.tuple #[.agg #[.int .u64 n, .int .i64 ft, .int .u64 fv, .int .i64 lt, .int .u64 lv, .int .u64 mn, .int .u64 mx, .int .u64 hi, .int .u64 lo], .int .i64 e0]) ∧ Below w.heap.size w w' := by
  refine Calls.mono (refAggof_any A c l w hS hs hl) ?_
  rintro e w' ⟨rfl, hb⟩
  rw [hR]
  exact ⟨rfl, hb⟩
theorem aggOf_code (l : List (Int × Nat)) : (aggOf l).2 = 0 ∨ (aggOf l).2 = 240 := by
  have key : ∀ (l : List (Int × Nat)) (r : AggD × Nat), r.2 = 0 ∨ r.2 = 240 → (l.foldl aggStep r).2 = 0 ∨ (l.foldl aggStep r).2 = 240 := by
    intro l
    induction l with
    | nil => intro r h; exact h
    | cons s l ih =>
      intro r h
      rw [List.foldl_cons]
      refine ih _ ?_
      unfold aggStep
      split
      · rcases aggJoin_code r.1 (aggOne s.1 s.2) with h | ⟨h, _⟩
        · exact .inl h
        · exact .inr h
      · exact .inr rfl
  exact key l _ (.inl rfl)

set_option maxRecDepth 100000 in
set_option maxHeartbeats 1000000 in
theorem aggAll_walk (V : Option Addr) (c : Nat) (l : List (Int × Nat)) (w : World) (hV : Ss w V l) (hlm : l.length ≤ maxLen) (hs : okS l) :
    Calls Try.prog 12 #[.slice V l.length c] w fun e w' => e = .returned (.bool true) ∧ Below w.heap.size w w' := by
  have HS := Lib.hid hs
  clear hs
  have kA := keepA
  rcases Nat.lt_or_ge 60 l.length with hbig | hl
  · have hd : decide ((l.length : Int) > 60) = true := by simp; omega
    have hd2 : decide ((60 : Int) < l.length) = true := by simp; omega
    have hd3 : decide (60 < l.length) = true := by simp; omega
    go_enter Try.func12, Try.ntmps12
    go_wp2_with (go_at_call 31; refine (known_any _).mono ?_; rintro e w1 ⟨rfl, hb1⟩)
    exact bodyPost_ret (v := .bool true) (by simp [results, Try.results12, go_sem]) rfl ⟨rfl, hb1⟩
  · have hd : decide ((l.length : Int) > 60) = false := by simp; omega
    have hd2 : decide ((60 : Int) < l.length) = false := by simp; omega
    have hd3 : decide (60 < l.length) = false := by simp; omega
    obtain ⟨⟨⟨n, ft, fv, lt, lv, mn, mx, hi, lo⟩, e0⟩, hR⟩ : ∃ R, aggOf l = R := ⟨_, rfl⟩
    have he0 := aggOf_code l
    rw [hR] at he0
    have HR := Lib.hid hR
    have He0 := Lib.hid he0
    clear hR he0
    go_enter Try.func12, Try.ntmps12
    go_wp2_with (first
      | (go_at_call 31; refine (known_any _).mono ?_; rintro e w1 ⟨rfl, hb1⟩; have V1 := hV.below hb1)
      | (at_builtin; go_must (refine appR Try.eltS _ rfl (.tmp 17) (.tmp 18) rfl w1.heap.size _ [] rfl (OwnR.nil _ _ _ _ _) V c l rfl V1.rw' (by simp [maxLen]; omega) (by simp; omega) (Nat.le_refl _) ?_); intro A2 c2 w2 hown2 hb2; have S2 : Ss w2 A2 l := OwnS.at hown2; have V2 := V1.below hb2; clear hown2)
      | (go_at_call 33; refine (aggof_R A2 c2 l n ft fv lt lv mn mx hi lo e0 HR.out _ S2 HS.out (by omega)).mono ?_; rintro e w3 ⟨rfl, hb3⟩; have V3 := (V2.below hb3).below (below_alloc w3 (.cells #[.int .u64 n, .int .i64 ft, .int .u64 fv, .int .i64 lt, .int .u64 lv, .int .u64 mn, .int .u64 mx, .int .u64 hi, .int .u64 lo] 50)))
      | (go_at_call 40; refine (refAggof_R V c l n ft fv lt lv mn mx hi lo e0 HR.out _ V3 HS.out (by omega)).mono ?_; rintro e w4 ⟨rfl, hb4⟩; have B3 := (Blk.new w3 50 #[.int .u64 n, .int .i64 ft, .int .u64 fv, .int .i64 lt, .int .u64 lv, .int .u64 mn, .int .u64 mx, .int .u64 hi, .int .u64 lo]).go hb4))
    have T4 := on (on (on hb1 hb2) hb3) hb4
    have S4 := ((S2.below hb3).below (below_alloc w3 (.cells #[.int .u64 n, .int .i64 ft, .int .u64 fv, .int .i64 lt, .int .u64 lv, .int .u64 mn, .int .u64 mx, .int .u64 hi, .int .u64 lo] 50))).below hb4
    have V4 := V3.below hb4
    go_loopw [8] (fun i wr => ∃ (k : Nat), k ≤ l.length ∧ i = .int .i64 k ∧ Blk wr w3.heap.size 50 #[.int .u64 n, .int .i64 ft, .int .u64 fv, .int .i64 lt, .int .u64 lv, .int .u64 mn, .int .u64 mx, .int .u64 hi, .int .u64 lo] ∧ Blk wr w4.heap.size 50 #[.int .u64 n, .int .i64 ft, .int .u64 fv, .int .i64 lt, .int .u64 lv, .int .u64 mn, .int .u64 mx, .int .u64 hi, .int .u64 lo] ∧ Ss wr A2 l ∧ Ss wr V l ∧ Below w.heap.size w wr)
      (fun i _ => l.length - (intOf i).toNat)
    case atStart => exact ⟨0, Nat.zero_le _, rfl, B3.alloc _, Blk.new _ _ _, S4.below (below_alloc _ _), V4.below (below_alloc _ _), T4.alloc T4.size _⟩
    case round =>
      obtain ⟨k, hk, rfl, C3, C4, Sr, Vr, hbel⟩ := hrel
      by_cases hlt : k < l.length
      · obtain ⟨p, o, rfl, g1, g2⟩ := Vr k l[k] (List.getElem?_eq_getElem hlt)
        obtain ⟨p2, o2, rfl, q1, q2⟩ := Sr k l[k] (List.getElem?_eq_getElem hlt)
        obtain ⟨s, hs⟩ : ∃ s, s = l[k] := ⟨_, rfl⟩
        rw [← hs] at g1 g2 q1 q2
        obtain ⟨t, v⟩ := s
        simp only at g1 g2 q1 q2
        clear hs
        go_wp2_with fail
        go_quiet (fail)
        go_wp2_with fail
        go_roundw
        case measure => simp [intOf]; omega
        case rel => exact ⟨k + 1, by omega, by go_num, C3, C4, Sr, Vr, below_drewN hbel nq⟩
      · obtain rfl : k = l.length := by omega
        have c3 := C3.nine
        have c4 := C4.nine
        rcases He0.out with rfl | rfl
        · go_wp2_with fail
          trace_state
          refine bodyPost_ret (v := .bool true) (by simp [results, Try.results12, go_sem]) rfl ⟨rfl, hbel⟩
        · go_wp2_with fail
          refine bodyPost_ret (v := .bool true) (by simp [results, Try.results12, go_sem]) rfl ⟨rfl, hbel⟩

end Go.Proofs.Ytdagegafanfhmaa
