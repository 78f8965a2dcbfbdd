/- The program's Put of layer 3. -/
import Derived.Test.YtfooggamdbdniaaDoorXr11
import Derived.Test.YtfooggamdbdniaaDoorXr12
import Derived.Test.YtfooggamdbdniaaDoorXr13
import Derived.Test.YtfooggamdbdniaaDoorXr7
import Derived.Test.YtfooggamdbdniaaDoorBit8
import Derived.Deep.RegionHeld3
namespace Go.Proofs.YtfooggamdbdniaaDoor
open Go.RowKit

theorem encode_any (h : Bool) (p l b v : Nat) (w : World) (hv : v < 18446744073709551616) (hp : p < 18446744073709551616) (hs : soundX ⟨h, p, l, b⟩ = true) (hT : Tab w) :
    Calls Tryd.prog 21 #[.agg #[.bool h, .int .u64 p, .int .u8 l, .int .u8 b], .int .u64 v] w fun e w' => EncOut (encX ⟨h, p, l, b⟩ v).1 (encX ⟨h, p, l, b⟩ v).2 w.heap.size e w' ∧ Below w.heap.size w w' := by
  unfold soundX at hs
  cases h
  · simp at hs
    have := encode_first p l b v _ w hv hp (by omega) rfl
    unfold encX
    rw [if_pos rfl]
    exact this
  · simp at hs
    unfold encX
    rw [if_neg (by simp)]
    by_cases h0 : v ^^^ p = 0
    · rw [if_pos h0]
      exact encode_same p l b v _ w hv hp (by omega) rfl h0
    · rw [if_neg h0]
      cases hh : holdsX l b (v ^^^ p)
      · rw [if_neg (by decide)]
        exact encode_new p l b v _ w hv hp (by omega) rfl hT h0 hh
      · rw [if_pos rfl]
        exact encode_old p l b v _ w hv hp (by omega) rfl h0 hh

/-- three boxes behind one another -/
theorem three_at (w : World) (b1 b2 b3 : Array Value) (t1 t2 t3 : TypeId) :
    Blk (((w.alloc (.cells b1 t1)).alloc (.cells b2 t2)).alloc (.cells b3 t3)) w.heap.size t1 b1 ∧ Blk (((w.alloc (.cells b1 t1)).alloc (.cells b2 t2)).alloc (.cells b3 t3)) (w.heap.size + 1) t2 b2 ∧
    Blk (((w.alloc (.cells b1 t1)).alloc (.cells b2 t2)).alloc (.cells b3 t3)) (w.heap.size + 2) t3 b3 ∧ Below w.heap.size w (((w.alloc (.cells b1 t1)).alloc (.cells b2 t2)).alloc (.cells b3 t3)) ∧ (((w.alloc (.cells b1 t1)).alloc (.cells b2 t2)).alloc (.cells b3 t3)).heap.size = w.heap.size + 3 := by
  have s1 : (w.alloc (.cells b1 t1)).heap.size = w.heap.size + 1 := by simp
  have s2 : ((w.alloc (.cells b1 t1)).alloc (.cells b2 t2)).heap.size = w.heap.size + 2 := by simp
  refine ⟨((Blk.new w _ _).alloc _).alloc _, ?_, ?_, ((below_alloc w _).alloc (by simp) _).alloc (by simp; omega) _, by simp⟩
  · have := (Blk.new (w.alloc (.cells b1 t1)) t2 b2).alloc (.cells b3 t3)
    rwa [s1] at this
  · have := Blk.new ((w.alloc (.cells b1 t1)).alloc (.cells b2 t2)) t3 b3
    rwa [s2] at this
theorem catE_two (l : List UInt8) (m : Nat) (M : List Bool) : catE [(l, (m : Int)), (pack M, (M.length : Int))] = bitl l m ++ M := by
  unfold catE
  simp [bits_pack]
theorem soundE_two {l : List UInt8} {m : Nat} (h : soundB l m = true) (M : List Bool) : soundE [(l, (m : Int)), (pack M, (M.length : Int))] = true := by
  unfold soundE
  simp [h, sound_pack]

set_option maxRecDepth 100000 in
set_option maxHeartbeats 1000000 in
theorem xput_any (A : Option Addr) (c : Nat) (l : List UInt8) (n : Int) (h : Bool) (p ld b v : Nat) (w : World) (hb : Bs w A l) (hn : -9223372036854775808 ≤ n ∧ n ≤ 9223372036854775807) (hl : l.length ≤ 100000)
    (hv : v < 18446744073709551616) (hp : p < 18446744073709551616) (hld : ld < 256) (hbb : b < 256) (hT : Tab w) :
    Calls Tryd.prog 12 #[.agg #[.slice A l.length c, .int .i64 n], .agg #[.bool h, .int .u64 p, .int .u8 ld, .int .u8 b], .int .u64 v] w fun e w' => PutOut (putX l n ⟨h, p, ld, b⟩ v) .u16 w.heap.size e w' ∧ Below w.heap.size w w' := by
  have F := four_new w #[.slice A l.length c, .int .i64 n] #[.bool h, .int .u64 p, .int .u8 ld, .int .u8 b] #[.slice none 0 0, .int .i64 0] #[.bool false, .int .u64 0, .int .u8 0, .int .u8 0] 29 24
  have hlm : l.length ≤ maxLen := by unfold maxLen; omega
  go_enter Tryd.func12, Tryd.ntmps12
  go_wp2_with fail
  have hb0 := hb.below F.t
  have HF := Lib.hid F
  clear F
  generalize (((w.alloc (.cells #[.slice A l.length c, .int .i64 n] 29)).alloc (.cells #[.bool h, .int .u64 p, .int .u8 ld, .int .u8 b] 24)).alloc (.cells #[.slice none 0 0, .int .i64 0] 29)).alloc (.cells #[.bool false, .int .u64 0, .int .u8 0, .int .u8 0] 24) = W at *
  refine (sound_any A c l n W hb0 hn hlm).mono ?_
  rintro e w1 ⟨rfl, b1⟩
  have HF1 := Lib.hid (HF.out.go b1)
  obtain ⟨⟨q0, q1, q2, q3⟩, g0, g1, g2, g3⟩ := HF1.out.h3.quad
  obtain ⟨⟨y0, y1⟩, x0, x1⟩ := HF1.out.h2.duo
  obtain ⟨⟨u0, u1, u2, u3⟩, -⟩ := HF1.out.h1.quad
  obtain ⟨⟨v0, v1⟩, -⟩ := HF1.out.h0.duo
  have a1 := hb0.below b1
  have HT := Lib.hid hT
  clear hT
  cases hs : soundB l n
  · have Hs := Lib.hid hs
    clear hs
    go_wp2_with fail
    have FF := HF1.out.fin (.slice none 0 0) (.int .i64 0) (.bool false) (.int .u64 0) (.int .u8 0) (.int .u8 0)
    obtain ⟨⟨s0, s1, s2, s3⟩, -⟩ := FF.h3.quad
    obtain ⟨⟨r0, r1⟩, -⟩ := FF.h2.duo
    refine bodyPost_ret (v := .tuple #[.agg #[.slice none 0 0, .int .i64 0], .agg #[.bool false, .int .u64 0, .int .u8 0, .int .u8 0], .int .u16 11]) (by simp [results, Tryd.results12, go_sem, r0, r1, s0, s1, s2, s3]) rfl ⟨?_, FF.t⟩
    unfold putX
    rw [if_pos Hs.out]
    exact ⟨none, 0, 0, rfl, rfl, OwnB.nil _ _⟩
  · have Hs := Lib.hid hs
    clear hs
    go_wp2_with fail
    refine (xsound_any h p ld b _ hld hbb).mono ?_
    rintro e w2 ⟨rfl, b2⟩
    have HF2 := Lib.hid (HF1.out.go b2)
    clear q0 q1 q2 q3 g0 g1 g2 g3 y0 y1 x0 x1 u0 u1 u2 u3 v0 v1
    obtain ⟨⟨q0, q1, q2, q3⟩, g0, g1, g2, g3⟩ := HF2.out.h3.quad
    obtain ⟨⟨y0, y1⟩, x0, x1⟩ := HF2.out.h2.duo
    obtain ⟨⟨u0, u1, u2, u3⟩, -⟩ := HF2.out.h1.quad
    obtain ⟨⟨v0, v1⟩, -⟩ := HF2.out.h0.duo
    have a2 := a1.below b2
    cases hx : soundX ⟨h, p, ld, b⟩
    · have Hx := Lib.hid hx
      clear hx
      go_wp2_with fail
      have FF := HF2.out.fin (.slice none 0 0) (.int .i64 0) (.bool false) (.int .u64 0) (.int .u8 0) (.int .u8 0)
      obtain ⟨⟨s0, s1, s2, s3⟩, -⟩ := FF.h3.quad
      obtain ⟨⟨r0, r1⟩, -⟩ := FF.h2.duo
      refine bodyPost_ret (v := .tuple #[.agg #[.slice none 0 0, .int .i64 0], .agg #[.bool false, .int .u64 0, .int .u8 0, .int .u8 0], .int .u16 30]) (by simp [results, Tryd.results12, go_sem, r0, r1, s0, s1, s2, s3]) rfl ⟨?_, FF.t⟩
      unfold putX
      rw [if_neg (by rw [Hs.out]; decide), if_pos Hx.out]
      exact ⟨none, 0, 0, rfl, rfl, OwnB.nil _ _⟩
    · obtain ⟨m, hm, hm8, -⟩ := sound_nat Hs.out
      have Hx := Lib.hid hx
      have HE := Lib.hid (encode_any h p ld b v w2 hv hp hx (tabGo HT.out HF2.out.t))
      clear hx
      subst hm
      go_wp2_with fail
      refine HE.out.mono ?_
      rintro e w3 ⟨HW, b3⟩
      obtain ⟨A3, n3, c3, hn3, rfl, o3⟩ := HW
      have hlen := enc_len (s := ⟨h, p, ld, b⟩) (v := v) Hx.out hp hv
      obtain ⟨M, th, tp, tl, tb, hMT⟩ : ∃ M th tp tl tb, encX ⟨h, p, ld, b⟩ v = (M, ⟨th, tp, tl, tb⟩) := ⟨_, _, _, _, _, rfl⟩
      simp only [hMT] at hn3 o3 hlen ⊢
      have HMT := Lib.hid hMT
      have HF3 := Lib.hid (HF2.out.go b3)
      clear q0 q1 q2 q3 g0 g1 g2 g3 y0 y1 x0 x1 u0 u1 u2 u3 v0 v1 hMT HE
      subst hn3
      have a3 := a2.below b3
      have HA3 := Lib.hid a3
      have HMl : Hid (M.length ≤ 77) := Lib.hid hlen.2
      clear hlen
      obtain ⟨⟨v0, v1⟩, -⟩ := HF3.out.h0.duo
      have kA := keepA
      have kF := keepF
      have Ho3 := Lib.hid o3
      clear o3
      go_wp2_with fail
      obtain ⟨b9, b10, b11, t34, s4⟩ := three_at w3 #[.slice A3 (pack M).length c3, .int .i64 M.length] #[.bool th, .int .u64 tp, .int .u8 tl, .int .u8 tb] #[.slice A l.length c, .int .i64 m, .slice A3 (pack M).length c3, .int .i64 M.length] 29 24 29
      obtain ⟨W4, hW4⟩ : ∃ W4, W4 = ((w3.alloc (.cells #[.slice A3 (pack M).length c3, .int .i64 M.length] 29)).alloc (.cells #[.bool th, .int .u64 tp, .int .u8 tl, .int .u8 tb] 24)).alloc (.cells #[.slice A l.length c, .int .i64 m, .slice A3 (pack M).length c3, .int .i64 M.length] 29) := ⟨_, rfl⟩
      rw [← hW4] at b9 b10 b11 t34 s4 ⊢
      have HBs : BsL W4 (some ⟨w3.heap.size + 2, 0, none⟩) [(l, (m : Int)), (pack M, (M.length : Int))] := fun i e hi => by
        match i, hi with
        | 0, hi =>
          simp at hi
          subst hi
          exact ⟨_, _, A, c, rfl, b11.cell 0, b11.cell 1, HA3.out.below t34, by simp only; omega⟩
        | 1, hi =>
          simp at hi
          subst hi
          exact ⟨_, _, A3, c3, rfl, b11.cell 2, b11.cell 3, (Ho3.out.below t34).bs, by simp only; have := HMl.out; omega⟩
        | i + 2, hi => simp at hi
      have hJ := join_ok (some ⟨w3.heap.size + 2, 0, none⟩) 2 [(l, (m : Int)), (pack M, (M.length : Int))] W4 HBs (soundE_two Hs.out M) (by simp) (by
        intro e he
        simp at he
        rcases he with rfl | rfl
        · simp only; omega
        · simp only; have := pack_le M HMl.out; omega)
      rw [catE_two] at hJ
      obtain ⟨BS, hBS⟩ : ∃ BS, BS = bitl l m ++ M := ⟨_, rfl⟩
      rw [← hBS] at hJ
      have HJ := Lib.hid hJ
      have HBS := Lib.hid hBS
      have HF4 := Lib.hid (HF3.out.go t34)
      have HX := Lib.hid b10
      have Hs4 := Lib.hid s4
      clear hJ hBS HBs b9 b10 b11 hW4 s4 kA kF v0 v1
      refine HJ.out.mono ?_
      rintro e w5 ⟨A5, c5, rfl, o5, b5⟩
      have HF5 := Lib.hid ((HF4.out.go b5).go (below_alloc w5 (.cells #[.slice A5 (pack BS).length c5, .int .i64 BS.length] 29)))
      have HX5 := Lib.hid ((HX.out.below b5 HX.out.lt).alloc (.cells #[.slice A5 (pack BS).length c5, .int .i64 BS.length] 29))
      have HY5 := Lib.hid (Blk.new w5 29 #[.slice A5 (pack BS).length c5, .int .i64 BS.length])
      have o6 := (o5.alloc (.cells #[.slice A5 (pack BS).length c5, .int .i64 BS.length] 29))
      go_wp2_with fail
      obtain ⟨W6, hW6⟩ : ∃ W6, W6 = w5.alloc (.cells #[.slice A5 (pack BS).length c5, .int .i64 BS.length] 29) := ⟨_, rfl⟩
      rw [← hW6] at HF5 HX5 HY5 o6 ⊢
      have z45 : w3.heap.size + 3 ≤ w5.heap.size := by have := b5.size; have := Hs4.out; omega
      have z3 := HF3.out.z
      obtain ⟨⟨m0, m1, m2, m3⟩, k0, k1, k2, k3⟩ := HF5.out.h3.quad
      obtain ⟨⟨y0, y1⟩, x0, x1⟩ := HF5.out.h2.duo
      have dq : W6.cell? ⟨w5.heap.size, 0, none⟩ = some (.slice A5 (pack BS).length c5) ∧ W6.cell? ⟨w5.heap.size, 1, none⟩ = some (.int .i64 BS.length) ∧ W6.cell? ⟨w3.heap.size + 1, 0, none⟩ = some (.bool th) ∧ W6.cell? ⟨w3.heap.size + 1, 1, none⟩ = some (.int .u64 tp) ∧ W6.cell? ⟨w3.heap.size + 1, 2, none⟩ = some (.int .u8 tl) ∧ W6.cell? ⟨w3.heap.size + 1, 3, none⟩ = some (.int .u8 tb) :=
        ⟨HY5.out.cell 0, HY5.out.cell 1, HX5.out.cell 0, HX5.out.cell 1, HX5.out.cell 2, HX5.out.cell 3⟩
      have nf1 := fun (W : World) (i j : Nat) (u : Value) => World.cell?_setCell_far W ⟨w.heap.size + 1 + 1, i, none⟩ ⟨w5.heap.size, j, none⟩ u (by simp; omega)
      have nf2 := fun (W : World) (i j : Nat) (u : Value) => World.cell?_setCell_far W ⟨w.heap.size + 1 + 1, i, none⟩ ⟨w3.heap.size + 1, j, none⟩ u (by simp; omega)
      have nf3 := fun (W : World) (i j : Nat) (u : Value) => World.cell?_setCell_far W ⟨w.heap.size + 1 + 1 + 1, i, none⟩ ⟨w5.heap.size, j, none⟩ u (by simp; omega)
      have nf4 := fun (W : World) (i j : Nat) (u : Value) => World.cell?_setCell_far W ⟨w.heap.size + 1 + 1 + 1, i, none⟩ ⟨w3.heap.size + 1, j, none⟩ u (by simp; omega)
      have ndr : ∀ (W : World) (a : Addr), W.drew.cell? a = W.cell? a := fun _ _ => rfl
      clear hW6 z45 z3
      go_region_held3 (fun w' => w'.cell? ⟨w5.heap.size, 0, none⟩ = some (.slice A5 (pack BS).length c5) ∧ w'.cell? ⟨w5.heap.size, 1, none⟩ = some (.int .i64 BS.length) ∧ w'.cell? ⟨w3.heap.size + 1, 0, none⟩ = some (.bool th) ∧ w'.cell? ⟨w3.heap.size + 1, 1, none⟩ = some (.int .u64 tp) ∧ w'.cell? ⟨w3.heap.size + 1, 2, none⟩ = some (.int .u8 tl) ∧ w'.cell? ⟨w3.heap.size + 1, 3, none⟩ = some (.int .u8 tb)) (first | (simp only [ndr]; with_reducible exact dq) | (simp only [ndr, nf1, nf2, nf3, nf4]; with_reducible exact dq)) (fail)
      go_wp2_with fail
      have FF := HF5.out.fin (.slice A5 (pack BS).length c5) (.int .i64 BS.length) (.bool th) (.int .u64 tp) (.int .u8 tl) (.int .u8 tb)
      obtain ⟨⟨s0, s1, s2, s3⟩, -⟩ := FF.h3.quad
      obtain ⟨⟨z0, z1⟩, -⟩ := FF.h2.duo
      have he : putX l m ⟨h, p, ld, b⟩ v = (pack BS, BS.length, ⟨th, tp, tl, tb⟩, 0) := by
        unfold putX
        rw [if_neg (by rw [Hs.out]; decide), if_neg (by rw [Hx.out]; decide), HMT.out, Int.toNat_natCast, ← HBS.out]
      rw [he]
      refine bodyPost_ret (v := .tuple #[.agg #[.slice A5 (pack BS).length c5, .int .i64 BS.length], .agg #[.bool th, .int .u64 tp, .int .u8 tl, .int .u8 tb], .int .u16 0]) (by simp [results, Tryd.results12, go_sem, z0, z1, s0, s1, s2, s3]) rfl ⟨⟨A5, _, c5, rfl, rfl, (o6.fin HF4.out.z (.slice A5 (pack BS).length c5) (.int .i64 BS.length) (.bool th) (.int .u64 tp) (.int .u8 tl) (.int .u8 tb)).drew⟩, FF.t.drew⟩

end Go.Proofs.YtfooggamdbdniaaDoor
