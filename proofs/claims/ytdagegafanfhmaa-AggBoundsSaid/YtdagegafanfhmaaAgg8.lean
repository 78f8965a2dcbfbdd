/- AggHalves. -/
import Derived.Test.YtdagegafanfhmaaAgg7
namespace Go.Proofs.Ytdagegafanfhmaa
open Go.RowKit

theorem aggOf_ok (l : List (Int × Nat)) (hs : okS l) : (aggOf l).1.ok := by
  have key : ∀ (l : List (Int × Nat)) (r : AggD × Nat), okS l → r.1.ok → (l.foldl aggStep r).1.ok := by
    intro l
    induction l with
    | nil => intro r _ h; exact h
    | cons s l ih =>
      intro r hs h
      rw [List.foldl_cons]
      refine ih _ (fun t ht => hs t (List.mem_cons_of_mem _ ht)) ?_
      have h1 := hs s (List.mem_cons_self)
      unfold aggStep
      split
      · exact aggJoin_ok h (aggOne_ok h1.1 h1.2)
      · exact aggNil_ok
  exact key l _ hs aggNil_ok
theorem okS.ris {l : List (Int × Nat)} (h : okS l) : okS (risL l) := fun s hs => h s ((risL_I l).2 s hs)

/-- a part of samples -/
theorem Ss.part {w : World} {A : Option Addr} {l : List (Int × Nat)} (h : Ss w A l) (lo hi m : Nat) (h1 : lo ≤ hi) (h2 : hi ≤ l.length) (h3 : hi ≤ m) : Ss w (if m = lo then A else A.map (·.add (lo * 2))) ((l.take hi).drop lo) := by
  split
  · rename_i he
    have : (l.take hi).drop lo = [] := List.drop_eq_nil_of_le (by rw [List.length_take]; omega)
    rw [this]
    exact Ss.nil _ _
  · rcases A with _ | ⟨p, o, s⟩
    · have hn : l = [] := h.rw'.none
      subst hn
      simp
      exact Ss.nil _ _
    · rcases Nat.eq_zero_or_pos l.length with h0 | h0
      · have hn : l = [] := List.eq_nil_of_length_eq_zero h0
        subst hn
        simp
        exact Ss.nil _ _
      · obtain ⟨p', o', hV, _⟩ := h 0 l[0] (List.getElem?_eq_getElem h0)
        injection hV with e
        injection e with e1 e2 e3
        subst e3
        simp only [Option.map_some, addS]
        exact (h.take hi).drop lo

theorem aggof_C (A : Option Addr) (N c : Nat) (l : List (Int × Nat)) (a : AggD) (e0 : Nat) (hR : aggOf l = (a, e0)) (hN : l.length = N) (w : World) (hS : Ss w A l) (hs : okS l) (hl : l.length ≤ 4294967296) :
    Calls Try.prog 33 #[.slice A N c] w fun e w' => e = .returned (.tuple #[.agg #[.int .u64 a.n, .int .i64 a.ft, .int .u64 a.fv, .int .i64 a.lt, .int .u64 a.lv, .int .u64 a.mn, .int .u64 a.mx, .int .u64 a.hi, .int .u64 a.lo], .int .u16 e0]) ∧ Below w.heap.size w w' := by
  subst hN
  refine Calls.mono (aggof_any A c l w hS hs hl) ?_
  rintro e w' ⟨rfl, hb⟩
  rw [hR]
  exact ⟨rfl, hb⟩
theorem aggjoin_C (a b c : AggD) (e0 : Nat) (w : World) (hJ : aggJoin a b = (c, e0)) (ha : a.ok) (hb : b.ok) :
    Calls Try.prog 34 #[.agg #[.int .u64 a.n, .int .i64 a.ft, .int .u64 a.fv, .int .i64 a.lt, .int .u64 a.lv, .int .u64 a.mn, .int .u64 a.mx, .int .u64 a.hi, .int .u64 a.lo], .agg #[.int .u64 b.n, .int .i64 b.ft, .int .u64 b.fv, .int .i64 b.lt, .int .u64 b.lv, .int .u64 b.mn, .int .u64 b.mx, .int .u64 b.hi, .int .u64 b.lo]] w fun e w' =>
      e = .returned (.tuple #[.agg #[.int .u64 c.n, .int .i64 c.ft, .int .u64 c.fv, .int .i64 c.lt, .int .u64 c.lv, .int .u64 c.mn, .int .u64 c.mx, .int .u64 c.hi, .int .u64 c.lo], .int .u16 e0]) ∧ Below w.heap.size w w' := by
  refine Calls.mono (aggjoin_any a b w ha hb) ?_
  rintro e w' ⟨rfl, hb⟩
  rw [hJ]
  exact ⟨rfl, hb⟩

set_option maxRecDepth 100000 in
set_option maxHeartbeats 1000000 in
theorem aggHalves_walk (V : Option Addr) (c : Nat) (l : List (Int × Nat)) (k : Int) (w : World) (hV : Ss w V l) (hlm : l.length ≤ maxLen) (hs : okS l) (hk : -9223372036854775808 ≤ k ∧ k ≤ 9223372036854775807) :
    Calls Try.prog 13 #[.slice V l.length c, .int .i64 k] w fun e w' => e = .returned (.bool true) ∧ Below w.heap.size w w' := by
  have HS := Lib.hid hs
  clear hs
  have kA := keepA
  rcases Nat.lt_or_ge 60 l.length with hbig | hl
  · have hd : decide ((l.length : Int) > 60) = true := by simp; omega
    have hd2 : decide ((60 : Int) < l.length) = true := by simp; omega
    have hd3 : decide (60 < l.length) = true := by simp; omega
    go_enter Try.func13, Try.ntmps13
    go_wp2_with (go_at_call 31; refine (known_any _).mono ?_; rintro e w1 ⟨rfl, hb1⟩)
    exact bodyPost_ret (v := .bool true) (by simp [results, Try.results13, go_sem]) rfl ⟨rfl, hb1⟩
  · have hd : decide ((l.length : Int) > 60) = false := by simp; omega
    have hd2 : decide ((60 : Int) < l.length) = false := by simp; omega
    have hd3 : decide (60 < l.length) = false := by simp; omega
    go_enter Try.func13, Try.ntmps13
    go_wp2_with fail
    refine (known_any _).mono ?_
    rintro e w1 ⟨rfl, hb1⟩
    have V1 := hV.below hb1
    go_wp2_with fail
    refine (rising_any V c l _ V1 HS.out (by omega)).mono ?_
    rintro e w2 ⟨A2, c2, rfl, S2, hc2, hb2⟩
    have t2 := on hb1 hb2
    have hrl := risL_len l l.length (Nat.le_refl _)
    rw [List.take_length] at hrl
    have hI := (risL_I l).1
    have hok := HS.out.ris
    obtain ⟨S, hS⟩ : ∃ S, S = risL l := ⟨_, rfl⟩
    rw [← hS] at S2 hc2 hrl hI hok ⊢
    have HI := Lib.hid hI
    have Hok := Lib.hid hok
    clear hS hI hok V1 hV hb1 hb2
    go_upto_region 4 with fail
    go_cut [6] (fun s wx => ∃ n : Nat, s = .int .i64 n ∧ n ≤ S.length ∧ wx = w2)
    case first =>
      have hz : ((S.length : Int) + 1 == 0) = false := by simp; omega
      by_cases hi0 : k < 0
      · go_wp2_with fail
        go_meet
        exact ⟨0, rfl, Nat.zero_le _, rfl⟩
      · have h1 := Int.emod_nonneg k (show ((S.length : Int) + 1) ≠ 0 by omega)
        have h2 := Int.emod_lt_of_pos k (show 0 < ((S.length : Int) + 1) by omega)
        obtain ⟨a, ha⟩ := Int.eq_ofNat_of_zero_le h1
        have HA := Lib.hid ha
        have ha2 : a ≤ S.length := by omega
        clear ha h1 h2
        go_wp2_with fail
        go_meet
        exact ⟨a, by rw [HA.out], ha2, rfl⟩
    case rest =>
      obtain ⟨n, rfl, hn, rfl⟩ := hcut
      have hlt : (S.take n).length = n := by rw [List.length_take]; omega
      have hld : (S.drop n).length = S.length - n := by rw [List.length_drop]
      have Ra := of_C (S.take n) (HI.out.sublist (List.take_sublist _ _)) (Hok.out.take n) (by omega)
      have Rb := of_C (S.drop n) (HI.out.sublist (List.drop_sublist _ _)) (Hok.out.drop n) (by omega)
      have Rd := of_C S HI.out Hok.out (by omega)
      have Rj := join_C (S.take n) (S.drop n) (by rw [List.take_append_drop]; exact HI.out) (by omega)
      rw [List.take_append_drop] at Rj
      have oka := aggOf_ok (S.take n) (Hok.out.take n)
      have okb := aggOf_ok (S.drop n) (Hok.out.drop n)
      rw [Ra] at oka
      rw [Rb] at okb
      have hr : ∃ e0, (aggJoin (aggC (S.drop n)) (aggC (S.take n))).2 = e0 ∧ ((n = 0 ∧ e0 = 0) ∨ (0 < n ∧ n = S.length ∧ e0 = 0) ∨ (0 < n ∧ n < S.length ∧ e0 = 240)) := by
        rcases Nat.eq_zero_or_pos n with h0 | h0
        · subst h0
          refine ⟨0, ?_, .inl ⟨rfl, rfl⟩⟩
          have := join_C (S.drop 0) (S.take 0) (by simp; exact HI.out) (by simp; omega)
          rw [this]
        · rcases Nat.lt_or_ge n S.length with h1 | h1
          · refine ⟨240, ?_, .inr (.inr ⟨h0, h1, rfl⟩)⟩
            rw [join_back (S.take n) (S.drop n) (by rw [List.take_append_drop]; exact HI.out) (by omega) (List.ne_nil_of_length_pos (by omega)) (List.ne_nil_of_length_pos (by omega))]
          · have hn2 : n = S.length := by omega
            refine ⟨0, ?_, .inr (.inl ⟨h0, hn2, rfl⟩)⟩
            rw [hn2, List.drop_length, List.take_length]
            have := join_C [] S HI.out (by simp; omega)
            rw [show aggC [] = aggNil from rfl] at this
            rw [show aggC [] = aggNil from rfl, this]
      obtain ⟨e0, hr0, hr1⟩ := hr
      obtain ⟨x, hx⟩ : ∃ x, x = (aggJoin (aggC (S.drop n)) (aggC (S.take n))).1 := ⟨_, rfl⟩
      have Rr : aggJoin (aggC (S.drop n)) (aggC (S.take n)) = (x, e0) := by rw [hx, ← hr0]
      obtain ⟨a, ha⟩ : ∃ a, a = aggC (S.take n) := ⟨_, rfl⟩
      obtain ⟨b, hb⟩ : ∃ b, b = aggC (S.drop n) := ⟨_, rfl⟩
      obtain ⟨d, hd⟩ : ∃ d, d = aggC S := ⟨_, rfl⟩
      rw [← ha] at Ra Rj Rr oka
      rw [← hb] at Rb Rj Rr okb
      rw [← hd] at Rd Rj
      have HRa := Lib.hid Ra
      have HRb := Lib.hid Rb
      have HRd := Lib.hid Rd
      have HRj := Lib.hid Rj
      have HRr := Lib.hid Rr
      have Hoka := Lib.hid oka
      have Hokb := Lib.hid okb
      have Hr1 := Lib.hid hr1
      have Hlt := Lib.hid hlt
      have Hld := Lib.hid hld
      clear ha hb hd hx hr0 hr1 Ra Rb Rd Rj Rr oka okb hlt hld
      have Sb : Ss wc (if c2 = n then A2 else A2.map (·.add (n * 2))) (S.drop n) := by
        have h := S2.part n S.length c2 hn (Nat.le_refl _) hc2
        rwa [List.take_length] at h
      obtain ⟨X, hX⟩ : ∃ X, (if c2 = n then A2 else A2.map (·.add (n * 2))) = X := ⟨_, rfl⟩
      rw [hX] at Sb
      go_wp2_with fail
      refine (aggof_C A2 n c2 (S.take n) a 0 HRa.out Hlt.out _ (S2.take n) (Hok.out.take n) (by have := Hlt.out; omega)).mono ?_
      rintro e w3 ⟨rfl, hb3⟩
      have t3 := on t2 hb3
      have Sb3 := Sb.below hb3
      have S3 := S2.below hb3
      go_wp2_with fail
      trace_state
      refine (aggof_C X (S.length - n) (c2 - n) (S.drop n) b 0 HRb.out Hld.out _ (Sb3.below (below_alloc _ _)) (Hok.out.drop n) (by have := Hld.out; omega)).mono ?_
      rintro e w4 ⟨rfl, hb4⟩
      have A4 := (Blk.new w3 50 #[.int .u64 a.n, .int .i64 a.ft, .int .u64 a.fv, .int .i64 a.lt, .int .u64 a.lv, .int .u64 a.mn, .int .u64 a.mx, .int .u64 a.hi, .int .u64 a.lo]).go hb4
      have t4 := on t3 hb4
      have S4 := (S3.below (below_alloc w3 (.cells #[.int .u64 a.n, .int .i64 a.ft, .int .u64 a.fv, .int .i64 a.lt, .int .u64 a.lv, .int .u64 a.mn, .int .u64 a.mx, .int .u64 a.hi, .int .u64 a.lo] 50))).below hb4
      clear S3 Sb3 Sb t3 hb3 hb4 hX
      go_wp2_with fail
      refine (aggof_C A2 S.length c2 S d 0 HRd.out rfl _ (S4.below (below_alloc _ _)) Hok.out (by omega)).mono ?_
      rintro e w5 ⟨rfl, hb5⟩
      have A5 := A4.go hb5
      have B5 := (Blk.new w4 50 #[.int .u64 b.n, .int .i64 b.ft, .int .u64 b.fv, .int .i64 b.lt, .int .u64 b.lv, .int .u64 b.mn, .int .u64 b.mx, .int .u64 b.hi, .int .u64 b.lo]).go hb5
      have t5 := on t4 hb5
      have a5 := A5.nine
      have b5 := B5.nine
      clear A4 S4 t4 hb5
      go_wp2_with fail
      refine (aggjoin_C a b d 0 _ HRj.out Hoka.out Hokb.out).mono ?_
      rintro e w6 ⟨rfl, hb6⟩
      have A6 := A5.go hb6
      have B6 := B5.go hb6
      have C6 := (Blk.new w5 50 #[.int .u64 d.n, .int .i64 d.ft, .int .u64 d.fv, .int .i64 d.lt, .int .u64 d.lv, .int .u64 d.mn, .int .u64 d.mx, .int .u64 d.hi, .int .u64 d.lo]).go hb6
      have t6 := on t5 hb6
      have a6 := A6.nine
      have b6 := B6.nine
      clear A5 B5 t5 hb6 a5 b5
      go_wp2_with fail
      refine (aggjoin_C b a x e0 _ HRr.out Hokb.out Hoka.out).mono ?_
      rintro e w7 ⟨rfl, hb7⟩
      have C7 := C6.go hb7
      have D7 := (Blk.new w6 50 #[.int .u64 d.n, .int .i64 d.ft, .int .u64 d.fv, .int .i64 d.lt, .int .u64 d.lv, .int .u64 d.mn, .int .u64 d.mx, .int .u64 d.hi, .int .u64 d.lo]).go hb7
      have t7 := on t6 hb7
      have c7 := C7.nine
      have d7 := D7.nine
      clear A6 B6 C6 t6 hb7 a6 b6
      rcases Hr1.out with ⟨rfl, rfl⟩ | ⟨hn0, hn1, rfl⟩ | ⟨hn0, hn1, rfl⟩
      · go_wp2_with fail
        exact bodyPost_ret (v := .bool true) (by simp [results, Try.results13, go_sem]) rfl ⟨rfl, t7.alloc t7.size _⟩
      · have h1 : decide (0 < (n : Int)) = true := by simp; omega
        have h2 : decide ((n : Int) < S.length) = false := by simp; omega
        have h3 : decide (n < S.length) = false := by simp; omega
        have h4 : decide (0 < n) = true := by simp; omega
        clear hn1
        go_wp2_with fail
        exact bodyPost_ret (v := .bool true) (by simp [results, Try.results13, go_sem]) rfl ⟨rfl, t7.alloc t7.size _⟩
      · have h1 : decide (0 < (n : Int)) = true := by simp; omega
        have h2 : decide ((n : Int) < S.length) = true := by simp; omega
        have h3 : decide (n < S.length) = true := by simp; omega
        have h4 : decide (0 < n) = true := by simp; omega
        go_wp2_with fail
        exact bodyPost_ret (v := .bool true) (by simp [results, Try.results13, go_sem]) rfl ⟨rfl, t7.alloc t7.size _⟩

end Go.Proofs.Ytdagegafanfhmaa
