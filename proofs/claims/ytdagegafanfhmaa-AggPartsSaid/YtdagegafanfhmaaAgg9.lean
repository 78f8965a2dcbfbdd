/- AggParts. -/
import Derived.Test.YtdagegafanfhmaaAgg8
namespace Go.Proofs.Ytdagegafanfhmaa
open Go.RowKit

set_option maxRecDepth 100000 in
set_option maxHeartbeats 1000000 in
theorem aggParts_walk (V : Option Addr) (c : Nat) (l : List (Int × Nat)) (i k : Int) (w : World) (hV : Ss w V l) (hs : okS l) (hi : -9223372036854775808 ≤ i ∧ i ≤ 9223372036854775807) (hk : -9223372036854775808 ≤ k ∧ k ≤ 9223372036854775807) :
    Calls Try.prog 10 #[.slice V l.length c, .int .i64 i, .int .i64 k] w fun e w' => e = .returned (.bool true) ∧ Below w.heap.size w w' := by
  have HS := Lib.hid hs
  clear hs
  have kA := keepA
  rcases Nat.lt_or_ge 60 l.length with hbig | hl
  · have hd : decide ((l.length : Int) > 60) = true := by simp; omega
    have hd2 : decide ((60 : Int) < l.length) = true := by simp; omega
    have hd3 : decide (60 < l.length) = true := by simp; omega
    go_enter Try.func10, Try.ntmps10
    go_wp2_with (go_at_call 31; refine (known_any _).mono ?_; rintro e w1 ⟨rfl, hb1⟩)
    exact bodyPost_ret (v := .bool true) (by simp [results, Try.results10, go_sem]) rfl ⟨rfl, hb1⟩
  · have hd : decide ((l.length : Int) > 60) = false := by simp; omega
    have hd2 : decide ((60 : Int) < l.length) = false := by simp; omega
    have hd3 : decide (60 < l.length) = false := by simp; omega
    go_enter Try.func10, Try.ntmps10
    go_wp2_with fail
    refine (known_any _).mono ?_
    rintro e w1 ⟨rfl, hb1⟩
    have V1 := hV.below hb1
    go_wp2_with fail
    refine (rising_any V c l _ V1 HS.out (by omega)).mono ?_
    rintro e w2 ⟨A2, c2, rfl, S2, hc2, hb2⟩
    have t2 := on hb1 hb2
    have hrl := risL_len l l.length (Nat.le_refl _)
    rw [List.take_length] at hrl
    have hI := (risL_I l).1
    have hok := HS.out.ris
    obtain ⟨S, hS⟩ : ∃ S, S = risL l := ⟨_, rfl⟩
    rw [← hS] at S2 hc2 hrl hI hok ⊢
    have HI := Lib.hid hI
    have Hok := Lib.hid hok
    clear hS hI hok V1 hV hb1 hb2
    go_upto_region 4 with fail
    go_cut [8] (fun s wx => ∃ n : Nat, s = .int .i64 n ∧ n ≤ S.length ∧ wx = w2)
    case first =>
      have hz : ((S.length : Int) + 1 == 0) = false := by simp; omega
      by_cases hi0 : i < 0
      · go_wp2_with fail
        go_meet
        exact ⟨0, rfl, Nat.zero_le _, rfl⟩
      · have h1 := Int.emod_nonneg i (show ((S.length : Int) + 1) ≠ 0 by omega)
        have h2 := Int.emod_lt_of_pos i (show 0 < ((S.length : Int) + 1) by omega)
        obtain ⟨a, ha⟩ := Int.eq_ofNat_of_zero_le h1
        have HA := Lib.hid ha
        have ha2 : a ≤ S.length := by omega
        clear ha h1 h2
        go_wp2_with fail
        go_meet
        exact ⟨a, by rw [HA.out], ha2, rfl⟩
    case rest =>
      obtain ⟨n, rfl, hn, rfl⟩ := hcut
      go_upto_region 5 with fail
      go_cut [9] (fun s wx => ∃ m : Nat, s = .int .i64 m ∧ n ≤ m ∧ m ≤ S.length ∧ wx = wc)
      case first =>
        have hz : ((S.length : Int) - n + 1 == 0) = false := by simp; omega
        by_cases hi0 : k < 0
        · go_wp2_with fail
          go_meet
          exact ⟨n, by go_num, Nat.le_refl _, hn, rfl⟩
        · have h1 := Int.emod_nonneg k (show ((S.length : Int) - n + 1) ≠ 0 by omega)
          have h2 := Int.emod_lt_of_pos k (show 0 < ((S.length : Int) - n + 1) by omega)
          obtain ⟨b, hb⟩ := Int.eq_ofNat_of_zero_le h1
          have HB := Lib.hid hb
          have hb2 : n + b ≤ S.length := by omega
          have hb3 : 0 ≤ k % ((S.length : Int) - n + 1) := h1
          have hb4 : k % ((S.length : Int) - n + 1) ≤ S.length := by omega
          clear hb h2 h1
          go_wp2_with fail
          go_meet
          exact ⟨n + b, by rw [HB.out]; go_num, Nat.le_add_right _ _, hb2, rfl⟩
      case rest =>
        obtain ⟨m, rfl, hnm, hm, rfl⟩ := hcut
        have hlp : (S.take n).length = n := by rw [List.length_take]; omega
        have hlq : ((S.take m).drop n).length = m - n := by rw [List.length_drop, List.length_take]; omega
        have hlr : (S.drop m).length = S.length - m := by rw [List.length_drop]
        have e1 : S.take n ++ (S.take m).drop n = S.take m := by
          have h := List.take_append_drop n (S.take m)
          rwa [List.take_take, Nat.min_eq_left hnm] at h
        have e2 : (S.take m).drop n ++ S.drop m = S.drop n := by
          have h : (S.take m ++ S.drop m).drop n = (S.take m).drop n ++ S.drop m := List.drop_append_of_le_length (by rw [List.length_take]; omega)
          rw [← h, List.take_append_drop]
        have hR := HI.out
        have Rp := of_C (S.take n) (hR.sublist (List.take_sublist _ _)) (Hok.out.take n) (by omega)
        have Rq := of_C ((S.take m).drop n) (hR.sublist ((List.drop_sublist _ _).trans (List.take_sublist _ _))) ((Hok.out.take m).drop n) (by omega)
        have Rr := of_C (S.drop m) (hR.sublist (List.drop_sublist _ _)) (Hok.out.drop m) (by omega)
        have Jx := join_C (S.take n) ((S.take m).drop n) (by rw [e1]; exact hR.sublist (List.take_sublist _ _)) (by omega)
        rw [e1] at Jx
        have Jy := join_C (S.take m) (S.drop m) (by rw [List.take_append_drop]; exact hR) (by rw [List.length_take]; omega)
        rw [List.take_append_drop] at Jy
        have Jz := join_C ((S.take m).drop n) (S.drop m) (by rw [e2]; exact hR.sublist (List.drop_sublist _ _)) (by omega)
        rw [e2] at Jz
        have Jw := join_C (S.take n) (S.drop n) (by rw [List.take_append_drop]; exact hR) (by rw [List.length_drop]; omega)
        rw [List.take_append_drop] at Jw
        have op := aggOf_ok (S.take n) (Hok.out.take n)
        have oq := aggOf_ok ((S.take m).drop n) ((Hok.out.take m).drop n)
        have or := aggOf_ok (S.drop m) (Hok.out.drop m)
        rw [Rp] at op
        rw [Rq] at oq
        rw [Rr] at or
        have ox := aggJoin_ok op oq
        have oz := aggJoin_ok oq or
        rw [Jx] at ox
        rw [Jz] at oz
        obtain ⟨p, hp⟩ : ∃ p, p = aggC (S.take n) := ⟨_, rfl⟩
        obtain ⟨q, hq⟩ : ∃ q, q = aggC ((S.take m).drop n) := ⟨_, rfl⟩
        obtain ⟨r, hr⟩ : ∃ r, r = aggC (S.drop m) := ⟨_, rfl⟩
        obtain ⟨x, hx⟩ : ∃ x, x = aggC (S.take m) := ⟨_, rfl⟩
        obtain ⟨z, hz⟩ : ∃ z, z = aggC (S.drop n) := ⟨_, rfl⟩
        obtain ⟨d, hd⟩ : ∃ d, d = aggC S := ⟨_, rfl⟩
        rw [← hp] at Rp Jx Jw op
        rw [← hq] at Rq Jx Jz oq
        rw [← hr] at Rr Jy Jz or
        rw [← hx] at Jx Jy ox
        rw [← hz] at Jz Jw oz
        rw [← hd] at Jy Jw
        have HRp := Lib.hid Rp
        have HRq := Lib.hid Rq
        have HRr := Lib.hid Rr
        have HJx := Lib.hid Jx
        have HJy := Lib.hid Jy
        have HJz := Lib.hid Jz
        have HJw := Lib.hid Jw
        have Hop := Lib.hid op
        have Hoq := Lib.hid oq
        have Hor := Lib.hid or
        have Hox := Lib.hid ox
        have Hoz := Lib.hid oz
        have Hlp := Lib.hid hlp
        have Hlq := Lib.hid hlq
        have Hlr := Lib.hid hlr
        clear hp hq hr hx hz hd Rp Rq Rr Jx Jy Jz Jw op oq or ox oz hlp hlq hlr e1 e2 hR
        have Sq := S2.part n m c2 hnm hm (Nat.le_trans hm hc2)
        have Sr : Ss wc (if c2 = m then A2 else A2.map (·.add (m * 2))) (S.drop m) := by
          have h := S2.part m S.length c2 hm (Nat.le_refl _) hc2
          rwa [List.take_length] at h
        obtain ⟨X, hX⟩ : ∃ X, (if c2 = n then A2 else A2.map (·.add (n * 2))) = X := ⟨_, rfl⟩
        rw [hX] at Sq
        obtain ⟨Y, hY⟩ : ∃ Y, (if c2 = m then A2 else A2.map (·.add (m * 2))) = Y := ⟨_, rfl⟩
        rw [hY] at Sr
        go_wp2_with fail
        refine (aggof_C A2 n c2 (S.take n) p 0 HRp.out Hlp.out _ (S2.take n) (Hok.out.take n) (by have := Hlp.out; omega)).mono ?_
        rintro e w3 ⟨rfl, hb3⟩
        have t3 := on t2 hb3
        have Sq3 := Sq.below hb3
        have Sr3 := Sr.below hb3
        go_wp2_with fail
        refine (aggof_C X (m - n) (c2 - n) ((S.take m).drop n) q 0 HRq.out Hlq.out _ (Sq3.below (below_alloc _ _)) ((Hok.out.take m).drop n) (by have := Hlq.out; omega)).mono ?_
        rintro e w4 ⟨rfl, hb4⟩
        have P4 := (Blk.new w3 50 #[.int .u64 p.n, .int .i64 p.ft, .int .u64 p.fv, .int .i64 p.lt, .int .u64 p.lv, .int .u64 p.mn, .int .u64 p.mx, .int .u64 p.hi, .int .u64 p.lo]).go hb4
        have t4 := on t3 hb4
        have Sr4 := (Sr3.below (below_alloc w3 (.cells #[.int .u64 p.n, .int .i64 p.ft, .int .u64 p.fv, .int .i64 p.lt, .int .u64 p.lv, .int .u64 p.mn, .int .u64 p.mx, .int .u64 p.hi, .int .u64 p.lo] 50))).below hb4
        clear Sq3 Sr3 Sq Sr t3 hb3 hb4 hX S2 t2
        go_wp2_with fail
        refine (aggof_C Y (S.length - m) (c2 - m) (S.drop m) r 0 HRr.out Hlr.out _ (Sr4.below (below_alloc _ _)) (Hok.out.drop m) (by have := Hlr.out; omega)).mono ?_
        rintro e w5 ⟨rfl, hb5⟩
        have P5 := P4.go hb5
        have Q5 := (Blk.new w4 50 #[.int .u64 q.n, .int .i64 q.ft, .int .u64 q.fv, .int .i64 q.lt, .int .u64 q.lv, .int .u64 q.mn, .int .u64 q.mx, .int .u64 q.hi, .int .u64 q.lo]).go hb5
        have t5 := on t4 hb5
        have p5 := P5.nine
        have q5 := Q5.nine
        clear P4 Sr4 t4 hb5 hY
        go_wp2_with fail
        refine (aggjoin_C p q x 0 _ HJx.out Hop.out Hoq.out).mono ?_
        rintro e w6 ⟨rfl, hb6⟩
        have P6 := P5.go hb6
        have Q6 := Q5.go hb6
        have R6 := (Blk.new w5 50 #[.int .u64 r.n, .int .i64 r.ft, .int .u64 r.fv, .int .i64 r.lt, .int .u64 r.lv, .int .u64 r.mn, .int .u64 r.mx, .int .u64 r.hi, .int .u64 r.lo]).go hb6
        have t6 := on t5 hb6
        have r6 := R6.nine
        clear P5 Q5 t5 hb6 p5 q5
        go_wp2_with fail
        refine (aggjoin_C x r d 0 _ HJy.out Hox.out Hor.out).mono ?_
        rintro e w7 ⟨rfl, hb7⟩
        have P7 := P6.go hb7
        have Q7 := Q6.go hb7
        have R7 := R6.go hb7
        have t7 := on t6 hb7
        have q7 := Q7.nine
        have r7 := R7.nine
        clear P6 Q6 R6 t6 hb7 r6
        go_wp2_with fail
        refine (aggjoin_C q r z 0 _ HJz.out Hoq.out Hor.out).mono ?_
        rintro e w8 ⟨rfl, hb8⟩
        have P8 := P7.go hb8
        have D8 := (Blk.new w7 50 #[.int .u64 d.n, .int .i64 d.ft, .int .u64 d.fv, .int .i64 d.lt, .int .u64 d.lv, .int .u64 d.mn, .int .u64 d.mx, .int .u64 d.hi, .int .u64 d.lo]).go hb8
        have t8 := on t7 hb8
        have p8 := P8.nine
        clear P7 Q7 R7 t7 hb8 q7 r7
        go_wp2_with fail
        refine (aggjoin_C p z d 0 _ HJw.out Hop.out Hoz.out).mono ?_
        rintro e w9 ⟨rfl, hb9⟩
        have D9 := D8.go hb9
        have t9 := on t8 hb9
        have d9 := D9.nine
        clear P8 D8 t8 hb9 p8
        go_wp2_with fail
        exact bodyPost_ret (v := .bool true) (by simp [results, Try.results10, go_sem]) rfl ⟨rfl, t9.alloc t9.size _⟩

end Go.Proofs.Ytdagegafanfhmaa
