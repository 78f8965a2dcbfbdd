/- known of layer 3. -/
import Derived.Test.YtfooggamdbdniaaDoorXr14
namespace Go.Proofs.YtfooggamdbdniaaDoor
open Go.RowKit

theorem xput_M (A : Option Addr) (c : Nat) (M N : List Bool) (h : Bool) (p l b v : Nat) (T : XV) (w : World) (hE : encX ⟨h, p, l, b⟩ v = (N, T)) (hs : soundX ⟨h, p, l, b⟩ = true) (hb : Bs w A (pack M)) (hM : M.length ≤ 500000) (hv : v < 18446744073709551616) (hp : p < 18446744073709551616) (hT : Tab w) :
    Calls Tryd.prog 12 #[.agg #[.slice A (pack M).length c, .int .i64 M.length], .agg #[.bool h, .int .u64 p, .int .u8 l, .int .u8 b], .int .u64 v] w fun e w' =>
      ∃ A' c', e = .returned (.tuple #[.agg #[.slice A' (pack (M ++ N)).length c', .int .i64 ((M ++ N).length : Nat)], .agg #[.bool T.has, .int .u64 (T.prev : Nat), .int .u8 (T.lead : Nat), .int .u8 (T.width : Nat)], .int .u16 0]) ∧ OwnB w' w.heap.size (.slice A' (pack (M ++ N)).length c') (pack (M ++ N)) ∧ Below w.heap.size w w' := by
  have hlb : l < 256 ∧ b < 256 := by
    unfold soundX at hs
    cases h <;> simp at hs <;> omega
  refine (xput_any A c (pack M) M.length h p l b v w hb (by omega) (by rw [pack_length]; unfold nb; omega) hv hp hlb.1 hlb.2 hT).mono ?_
  rintro e w' ⟨⟨A', n', c', rfl, rfl, ho⟩, hB⟩
  have he : putX (pack M) M.length ⟨h, p, l, b⟩ v = (pack (M ++ N), (M ++ N).length, T, 0) := by
    unfold putX
    rw [if_neg (by rw [sound_pack]; decide), if_neg (by rw [hs]; decide), Int.toNat_natCast, bits_pack, hE]
  rw [he] at ho ⊢
  exact ⟨A', c', rfl, ho, hB⟩

theorem ex1 : encX ⟨false, 0, 0, 0⟩ 1 = (valB 1 64, ⟨true, 1, 0, 0⟩) := rfl
theorem ex2 : encX ⟨true, 1, 0, 0⟩ 1 = ([false], ⟨true, 1, 0, 0⟩) := by kernel_rfl
theorem ex3 : (encX ⟨true, 1, 0, 0⟩ 3).2 = ⟨true, 3, 31, 32⟩ ∧ (encX ⟨true, 1, 0, 0⟩ 3).1.length = 45 := ⟨by kernel_rfl, by kernel_rfl⟩
theorem ex4 : (encX ⟨true, 3, 31, 32⟩ 1).2 = ⟨true, 1, 31, 32⟩ ∧ (encX ⟨true, 3, 31, 32⟩ 1).1.length = 34 := ⟨by kernel_rfl, by kernel_rfl⟩

/-- two boxes behind one another -/
theorem two_at (w : World) (b1 b2 : Array Value) (t1 t2 : TypeId) :
    Blk ((w.alloc (.cells b1 t1)).alloc (.cells b2 t2)) w.heap.size t1 b1 ∧ Blk ((w.alloc (.cells b1 t1)).alloc (.cells b2 t2)) (w.heap.size + 1) t2 b2 ∧ Below w.heap.size w ((w.alloc (.cells b1 t1)).alloc (.cells b2 t2)) := by
  have s1 : (w.alloc (.cells b1 t1)).heap.size = w.heap.size + 1 := by simp
  refine ⟨(Blk.new w _ _).alloc _, ?_, (below_alloc w _).alloc (by simp) _⟩
  have := Blk.new (w.alloc (.cells b1 t1)) t2 b2
  rwa [s1] at this

set_option maxRecDepth 100000 in
set_option maxHeartbeats 1000000 in
theorem xknown_any (w : World) (hT : Tab w) : Calls Tryd.prog 9 #[] w fun e w' => e = .returned (.bool true) ∧ Below w.heap.size w w' := by
  have HT := Lib.hid hT
  clear hT
  obtain ⟨N3, hN3, hl3⟩ : ∃ N, encX ⟨true, 1, 0, 0⟩ 3 = (N, ⟨true, 3, 31, 32⟩) ∧ N.length = 45 := ⟨_, by rw [← ex3.1], ex3.2⟩
  obtain ⟨N4, hN4, hl4⟩ : ∃ N, encX ⟨true, 3, 31, 32⟩ 1 = (N, ⟨true, 1, 31, 32⟩) ∧ N.length = 34 := ⟨_, by rw [← ex4.1], ex4.2⟩
  have H3 := Lib.hid hN3
  have H4 := Lib.hid hN4
  obtain ⟨M1, hM1⟩ : ∃ M, M = [] ++ valB 1 64 := ⟨_, rfl⟩
  obtain ⟨M2, hM2⟩ : ∃ M, M = M1 ++ [false] := ⟨_, rfl⟩
  obtain ⟨M3, hM3⟩ : ∃ M, M = M2 ++ N3 := ⟨_, rfl⟩
  obtain ⟨M4, hM4⟩ : ∃ M, M = M3 ++ N4 := ⟨_, rfl⟩
  have l1 : M1.length = 64 := by rw [hM1]; simp [valB_length]
  have l2 : M2.length = 65 := by rw [hM2]; simp [l1]
  have l3 : M3.length = 110 := by rw [hM3]; simp [l2, hl3]
  have l4 : M4.length = 144 := by rw [hM4]; simp [l3, hl4]
  have K1 := Lib.hid hM1
  have K2 := Lib.hid hM2
  have K3 := Lib.hid hM3
  have K4 := Lib.hid hM4
  have L1 := Lib.hid l1
  have L2 := Lib.hid l2
  have L3 := Lib.hid l3
  have L4 := Lib.hid l4
  have c0 := Lib.hid (xput_M none 0 [] (valB 1 64) false 0 0 0 1 ⟨true, 1, 0, 0⟩ w ex1 rfl (Bs.nil _ _) (by simp) (by decide) (by decide) HT.out)
  clear hN3 hN4 hM1 hM2 hM3 hM4 l1 l2 l3 l4 hl3 hl4
  go_enter Tryd.func9, Tryd.ntmps9
  go_wp2_with fail
  refine c0.out.mono ?_
  rintro e w1 ⟨A1, c1, rfl, o1, b1⟩
  rw [← K1.out] at o1 ⊢
  obtain ⟨d1, -, s1⟩ := two_at w1 #[.slice A1 (pack M1).length c1, .int .i64 M1.length] #[.bool true, .int .u64 1, .int .u8 0, .int .u8 0] 29 24
  obtain ⟨W1, hW1⟩ : ∃ W, W = (w1.alloc (.cells #[.slice A1 (pack M1).length c1, .int .i64 M1.length] 29)).alloc (.cells #[.bool true, .int .u64 1, .int .u8 0, .int .u8 0] 24) := ⟨_, rfl⟩
  rw [← hW1] at d1 s1
  have D1 := Lib.hid d1
  have t1 : Below w.heap.size w W1 := on1 b1 s1
  have HW1 := Lib.hid hW1
  have c2 := Lib.hid (xput_M A1 c1 M1 [false] true 1 0 0 1 ⟨true, 1, 0, 0⟩ W1 ex2 rfl (o1.below s1).bs (by have := L1.out; omega) (by decide) (by decide) (tabGo HT.out t1))
  clear d1 hW1 o1
  go_wp2_with fail
  rw [← HW1.out]
  refine c2.out.mono ?_
  clear c2
  rintro e w2 ⟨A2, c2, rfl, o2, b2⟩
  rw [← K2.out] at o2 ⊢
  obtain ⟨d2, x2, s2⟩ := two_at w2 #[.slice A2 (pack M2).length c2, .int .i64 M2.length] #[.bool true, .int .u64 1, .int .u8 0, .int .u8 0] 29 24
  obtain ⟨W2, hW2⟩ : ∃ W, W = (w2.alloc (.cells #[.slice A2 (pack M2).length c2, .int .i64 M2.length] 29)).alloc (.cells #[.bool true, .int .u64 1, .int .u8 0, .int .u8 0] 24) := ⟨_, rfl⟩
  rw [← hW2] at d2 x2 s2
  have D2 := Lib.hid d2
  have t2 : Below w.heap.size w W2 := on1 (on1 t1 b2) s2
  have HW2 := Lib.hid hW2
  have E1 := Lib.hid ((D1.out.below b2 D1.out.lt).below s2 (D1.out.below b2 D1.out.lt).lt)
  clear D1
  have D1 := E1
  clear E1
  have c3 := Lib.hid (xput_M A2 c2 M2 N3 true 1 0 0 3 ⟨true, 3, 31, 32⟩ W2 H3.out rfl (o2.below s2).bs (by have := L2.out; omega) (by decide) (by decide) (tabGo HT.out t2))
  clear d2 x2 hW2 o2
  go_wp2_with fail
  rw [← HW2.out]
  refine c3.out.mono ?_
  clear c3
  rintro e w3 ⟨A3, c3, rfl, o3, b3⟩
  rw [← K3.out] at o3 ⊢
  obtain ⟨d3, x3, s3⟩ := two_at w3 #[.slice A3 (pack M3).length c3, .int .i64 M3.length] #[.bool true, .int .u64 3, .int .u8 31, .int .u8 32] 29 24
  obtain ⟨W3, hW3⟩ : ∃ W, W = (w3.alloc (.cells #[.slice A3 (pack M3).length c3, .int .i64 M3.length] 29)).alloc (.cells #[.bool true, .int .u64 3, .int .u8 31, .int .u8 32] 24) := ⟨_, rfl⟩
  rw [← hW3] at d3 x3 s3
  have D3 := Lib.hid d3
  have t3 : Below w.heap.size w W3 := on1 (on1 t2 b3) s3
  have HW3 := Lib.hid hW3
  have E1 := Lib.hid ((D1.out.below b3 D1.out.lt).below s3 (D1.out.below b3 D1.out.lt).lt)
  clear D1
  have D1 := E1
  clear E1
  have E2 := Lib.hid ((D2.out.below b3 D2.out.lt).below s3 (D2.out.below b3 D2.out.lt).lt)
  clear D2
  have D2 := E2
  clear E2
  have X3 := Lib.hid x3
  have c4 := Lib.hid (xput_M A3 c3 M3 N4 true 3 31 32 1 ⟨true, 1, 31, 32⟩ W3 H4.out rfl (o3.below s3).bs (by have := L3.out; omega) (by decide) (by decide) (tabGo HT.out t3))
  clear d3 x3 hW3 o3
  go_wp2_with fail
  rw [← HW3.out]
  refine c4.out.mono ?_
  clear c4
  rintro e w4 ⟨A4, c4, rfl, o4, b4⟩
  rw [← K4.out] at o4 ⊢
  have t4 : Below w.heap.size w w4 := on1 t3 b4
  have f1 := (D1.out.below b4 D1.out.lt).cell 1
  have f2 := (D2.out.below b4 D2.out.lt).cell 1
  have f3 := (D3.out.below b4 D3.out.lt).cell 1
  obtain ⟨⟨u0, u1, u2, u3⟩, -⟩ := (X3.out.below b4 X3.out.lt).quad
  have g1 : ((M1.length : Int) == 64) = true := by rw [L1.out]; rfl
  have g2 : ((M2.length : Int) == 65) = true := by rw [L2.out]; rfl
  have g3 : ((M3.length : Int) == 110) = true := by rw [L3.out]; rfl
  have g4 : IntKind.i64.wrap ((M3.length : Int) + 34) = (M4.length : Int) := by rw [L3.out, L4.out]; rfl
  have y1 := D1.out.lt
  have y2 := D2.out.lt
  have y3 := D3.out.lt
  have y4 := X3.out.lt
  have z4 := b4.size
  clear o4
  have kA := keepA
  have kF := keepF
  go_wp2_with fail
  go_ret
  exact ⟨rfl, t4.trans ((below_alloc2 w4 _ _).mono t4.size)⟩

end Go.Proofs.YtfooggamdbdniaaDoor
