/- Walks of XorSounds, XorPuts, XorSame. -/
import Derived.Test.YtfooggamdbdniaaDoorXr15
import Derived.Test.YtfooggamdbdniaaDoorRef9
namespace Go.Proofs.YtfooggamdbdniaaDoor
open Go.RowKit

theorem one_at (w : World) (b : Array Value) (t : TypeId) : Blk (w.alloc (.cells b t)) w.heap.size t b ∧ Below w.heap.size w (w.alloc (.cells b t)) := ⟨Blk.new w _ _, below_alloc w _⟩

set_option maxRecDepth 100000 in
set_option maxHeartbeats 1000000 in
theorem xorSounds_walk (h : Bool) (p l b : Nat) (w : World) (hl : l < 256) (hb : b < 256) (hT : Tab w) :
    Calls Tryd.prog 3 #[.agg #[.bool h, .int .u64 p, .int .u8 l, .int .u8 b]] w fun e w' => e = .returned (.bool true) ∧ Below w.heap.size w w' := by
  obtain ⟨d0, s0⟩ := one_at w #[.bool h, .int .u64 p, .int .u8 l, .int .u8 b] 24
  have HT := Lib.hid (tabGo hT s0)
  clear hT
  go_enter Tryd.func3, Tryd.ntmps3
  go_wp2_with fail
  generalize w.alloc (.cells #[.bool h, .int .u64 p, .int .u8 l, .int .u8 b] 24) = W at *
  obtain ⟨⟨q0, q1, q2, q3⟩, -⟩ := d0.quad
  have s1 := Lib.hid s0
  clear d0 s0
  have hp := plus_cell W
  obtain ⟨r, hr⟩ : ∃ r, r = soundX ⟨h, p, l, b⟩ := ⟨_, rfl⟩
  have hR := Lib.hid hr
  clear hr
  refine wp_region_ext (by kernel_rfl) (by kernel_rfl) ?_
  repeat (go_big_quiet_step ((first
    | (go_at_call 9; exact ext_of (xknown_any _ (tabGo HT.out (plus_below _ _))))
    | (go_at_call 10; exact ext_of (xsound_any h p l b _ hl hb))
    | (go_at_call 11; exact ext_of (rxsound_any h p l b _ hl hb)))))
  refine wpQuiet_nil ?_
  rintro w3 ⟨x, rfl⟩
  go_wp2
  go_ret
  refine ⟨by simp, s1.out.trans ((plus_below _ _).mono s1.out.size)⟩

theorem putX_code (l : List UInt8) (n : Int) (s : XV) (v : Nat) : (putX l n s v).2.2.2 ≤ 30 := by
  unfold putX
  split
  · simp
  · split <;> simp

set_option maxRecDepth 100000 in
set_option maxHeartbeats 1000000 in
theorem xorPuts_walk (A : Option Addr) (c : Nat) (l : List UInt8) (n : Int) (h : Bool) (p ld b v : Nat) (w : World) (hb : Bs w A l) (hn : -9223372036854775808 ≤ n ∧ n ≤ 9223372036854775807) (hl : l.length ≤ maxLen)
    (hp : p < 18446744073709551616) (hld : ld < 256) (hbb : b < 256) (hv : v < 18446744073709551616) (hT : Tab w) :
    Calls Tryd.prog 4 #[.agg #[.slice A l.length c, .int .i64 n], .agg #[.bool h, .int .u64 p, .int .u8 ld, .int .u8 b], .int .u64 v] w fun e w' => e = .returned (.bool true) ∧ Below w.heap.size w w' := by
  obtain ⟨d0, x0, s0⟩ := two_at w #[.slice A l.length c, .int .i64 n] #[.bool h, .int .u64 p, .int .u8 ld, .int .u8 b] 29 24
  have HT := Lib.hid (tabGo hT s0)
  have hb0 := hb.below s0
  clear hT hb
  unfold maxLen at hl
  by_cases hlen : 500 < l.length
  · have hI : (500 : Int) < l.length := by omega
    go_enter Tryd.func4, Tryd.ntmps4
    go_wp2_with fail
    refine (xknown_any _ HT.out).mono ?_
    rintro e w1 ⟨rfl, b1⟩
    have t1 := on1 s0 b1
    clear b1 HT d0 x0 s0 hb0
    go_wp2_with fail
    go_ret
    exact ⟨rfl, t1⟩
  · have hI : ¬ (500 : Int) < l.length := by omega
    go_enter Tryd.func4, Tryd.ntmps4
    go_wp2_with fail
    refine (xknown_any _ HT.out).mono ?_
    rintro e w1 ⟨rfl, b1⟩
    have D1 := d0.below b1 d0.lt
    have X1 := x0.below b1 x0.lt
    have HT1 := Lib.hid (tabGo HT.out b1)
    have hb1 := hb0.below b1
    have t1 := on1 s0 b1
    clear b1 HT d0 x0 s0 hb0
    obtain ⟨⟨q0, q1⟩, -⟩ := D1.duo
    obtain ⟨⟨u0, u1, u2, u3⟩, -⟩ := X1.quad
    have D1 := Lib.hid D1
    have X1 := Lib.hid X1
    obtain ⟨bs, m, th, tp, tl, tb, ec, hP⟩ : ∃ bs m th tp tl tb ec, putX l n ⟨h, p, ld, b⟩ v = (bs, m, ⟨th, tp, tl, tb⟩, ec) := ⟨_, _, _, _, _, _, _, rfl⟩
    have hec : ec ≤ 30 := by have := putX_code l n ⟨h, p, ld, b⟩ v; rw [hP] at this; exact this
    have hwr : IntKind.i64.wrap (ec : Int) = (ec : Int) := by rw [IntKind.wrap_i64]; omega
    have c1 := xput_any A c l n h p ld b v w1 hb1 hn (by omega) hv hp hld hbb HT1.out
    have c2 := fun (W : World) (hB : Below w1.heap.size w1 W) => rxput_any A c l n h p ld b v W (hb1.below hB) hn (by omega) hv hp hld hbb
    rw [hP] at c1
    simp only [hP] at c2
    have C1 := Lib.hid c1
    have C2 := Lib.hid c2
    have Hb1 := Lib.hid hb1
    clear c1 c2 hP hb1
    go_wp2_with fail
    refine C1.out.mono ?_
    clear C1
    rintro e w2 ⟨⟨A2, n2, c2, hn2, rfl, o2⟩, b2⟩
    simp only at hn2 o2 ⊢
    obtain ⟨d2, x2, s2⟩ := two_at w2 #[.slice A2 n2 c2, .int .i64 m] #[.bool th, .int .u64 tp, .int .u8 tl, .int .u8 tb] 29 24
    obtain ⟨⟨y0, y1⟩, -⟩ := ((D1.out.below b2 D1.out.lt)).duo
    obtain ⟨⟨v0, v1, v2, v3⟩, -⟩ := ((X1.out.below b2 X1.out.lt)).quad
    have t2 := on1 t1 b2
    have t3 := on1 t2 s2
    have Ho := Lib.hid (o2.below s2)
    have z1 := D1.out.lt
    have z2 := X1.out.lt
    have z3 := b2.size
    have D2 := Lib.hid d2
    have X2 := Lib.hid x2
    have C3 := Lib.hid (C2.out _ (on1 b2 s2))
    have Hn2 := Lib.hid hn2
    clear d2 x2 s2 b2 o2 hn2 C2
    have kA := keepA
    have kF := keepF
    go_wp2_with fail
    refine C3.out.mono ?_
    clear C3
    rintro e w4 ⟨⟨A4, n4, c4, hn4, rfl, o4⟩, b4⟩
    simp only at hn4 o4 ⊢
    have t4 := on1 t3 b4
    obtain ⟨⟨f0, f1⟩, -⟩ := ((D2.out.below b4 D2.out.lt)).duo
    obtain ⟨⟨g0, g1, g2, g3⟩, -⟩ := ((X2.out.below b4 X2.out.lt)).quad
    have Ho4 := Lib.hid (Ho.out.below b4)
    have Hp4 := Lib.hid o4
    have Hn4 := Lib.hid hn4
    have z4 := b4.size
    simp only [World.size_alloc] at z4
    clear o4 hn4 b4
    go_wp2_with fail
    obtain ⟨-, -, e1⟩ := two_at w4 #[.slice A4 n4 c4, .int .i64 m] #[.bool th, .int .u64 tp, .int .u8 tl, .int .u8 tb] 29 24
    have e2 := Hn2.out
    have e4 := Hn4.out
    subst e2 e4
    refine (refSame_any A2 A4 c2 c4 bs bs m m _ (Ho4.out.below e1).bs (Hp4.out.below e1).bs).mono ?_
    rintro e w5 ⟨rfl, b5⟩
    have t5 := on1 (on1 t4 e1) b5
    clear e1
    go_wp2_with fail
    go_ret
    exact ⟨by simp, t5⟩

set_option maxRecDepth 100000 in
set_option maxHeartbeats 1000000 in
theorem xorSame_walk (h : Bool) (p ld b v : Nat) (w : World)
    (hp : p < 18446744073709551616) (hld : ld < 256) (hbb : b < 256) (hv : v < 18446744073709551616) (hT : Tab w) :
    Calls Tryd.prog 8 #[.agg #[.bool h, .int .u64 p, .int .u8 ld, .int .u8 b], .int .u64 v] w fun e w' => e = .returned (.bool true) ∧ Below w.heap.size w w' := by
  obtain ⟨x0, s0⟩ := one_at w #[.bool h, .int .u64 p, .int .u8 ld, .int .u8 b] 24
  have HT := Lib.hid (tabGo hT s0)
  clear hT
  obtain ⟨⟨q0, q1, q2, q3⟩, -⟩ := x0.quad
  have X0 := Lib.hid x0
  go_enter Tryd.func8, Tryd.ntmps8
  go_wp2_with fail
  refine (xsound_any h p ld b _ hld hbb).mono ?_
  rintro e w1 ⟨rfl, b1⟩
  have t1 := on1 s0 b1
  have HT1 := Lib.hid (tabGo HT.out b1)
  have X1 := Lib.hid (X0.out.below b1 X0.out.lt)
  clear HT b1 s0 x0 q0 q1 q2 q3 X0
  cases hs : soundX ⟨h, p, ld, b⟩
  · go_wp2_with fail
    refine (xknown_any _ HT1.out).mono ?_
    rintro e w2 ⟨rfl, b2⟩
    have t2 := on1 t1 b2
    go_wp2_with fail
    go_ret
    exact ⟨rfl, t2⟩
  · have Hs := Lib.hid hs
    clear hs
    go_wp2_with fail
    refine (xknown_any _ HT1.out).mono ?_
    rintro e w2 ⟨rfl, b2⟩
    have t2 := on1 t1 b2
    have HT2 := Lib.hid (tabGo HT1.out b2)
    have X2 := Lib.hid (X1.out.below b2 X1.out.lt)
    clear b2 HT1 X1
    obtain ⟨⟨q0, q1, q2, q3⟩, -⟩ := X2.out.quad
    obtain ⟨N, th, tp, tl, tb, hE⟩ : ∃ N th tp tl tb, encX ⟨h, p, ld, b⟩ v = (N, ⟨th, tp, tl, tb⟩) := ⟨_, _, _, _, _, rfl⟩
    have k1 := enc_sound (s := ⟨h, p, ld, b⟩) (v := v) Hs.out hp hv
    have k2 := enc_len (s := ⟨h, p, ld, b⟩) (v := v) Hs.out hp hv
    have k3 := enc_same (s := ⟨h, p, ld, b⟩) (v := v) Hs.out hp hv
    rw [hE] at k1 k2 k3
    have HN : Hid (N.length ≤ 77) := Lib.hid k2.2
    have HE := Lib.hid hE
    have hN0 : ([] : List Bool) ++ N = N := rfl
    have c1 := xput_M none 0 [] N h p ld b v ⟨th, tp, tl, tb⟩ w2 hE Hs.out (Bs.nil _ _) (by simp) hv hp HT2.out
    rw [hN0] at c1
    have C1 := Lib.hid c1
    have K1 := Lib.hid k1
    have K3 := Lib.hid k3
    clear hE k1 k2 k3 c1 hN0
    go_wp2_with fail
    refine C1.out.mono ?_
    clear C1
    rintro e w3 ⟨A3, c3, rfl, o3, b3⟩
    obtain ⟨d3, x3, s3⟩ := two_at w3 #[.slice A3 (pack N).length c3, .int .i64 N.length] #[.bool th, .int .u64 tp, .int .u8 tl, .int .u8 tb] 29 24
    have t3 := on1 t2 b3
    have D3 := Lib.hid d3
    have X3 := Lib.hid x3
    have S3 := Lib.hid s3
    have tp64 : tp < 18446744073709551616 := by have := K1.out.2.1; have e : tp = v := this; omega
    have C4 := Lib.hid (xput_M A3 c3 N [false] th tp tl tb v ⟨th, tp, tl, tb⟩ _ K3.out K1.out.1 (o3.below s3).bs (by have := HN.out; omega) hv tp64 (tabGo HT2.out (on1 b3 s3)))
    clear o3 b3 d3 x3 s3
    go_wp2_with fail
    refine C4.out.mono ?_
    clear C4
    rintro e w4 ⟨A4, c4, rfl, o4, b4⟩
    have t4 := on1 (on1 t3 S3.out) b4
    obtain ⟨⟨f0, f1⟩, -⟩ := ((D3.out.below b4 D3.out.lt)).duo
    obtain ⟨⟨g0, g1, g2, g3⟩, -⟩ := ((X3.out.below b4 X3.out.lt)).quad
    have z4 := b4.size
    simp only [World.size_alloc] at z4
    obtain ⟨L4, hL4⟩ : ∃ L, L = (N ++ [false]).length := ⟨_, rfl⟩
    have m1 : IntKind.i64.wrap ((N.length : Int) + 1) = (L4 : Int) := by
      rw [hL4, IntKind.wrap_i64]; have := HN.out; simp; omega
    have m2 : (N.length : Int) ≤ 77 := by have := HN.out; omega
    have m3 : ((L4 : Int) == (L4 : Int)) = true := by simp
    rw [← hL4]
    clear hL4 o4 b4
    have kA := keepA
    have kF := keepF
    go_wp2_with fail
    go_ret
    exact ⟨by simp, t4.trans ((below_alloc2 w4 _ _).mono t4.size)⟩

end Go.Proofs.YtfooggamdbdniaaDoor
