/- Joined: Xr14, Xr15, Xr17, Xr18, Xr19, Xr20, Chk1, Xr21, Xr22, Xr23. -/
import Derived.Test.YtgnppnjhecfjeaaDoorQ19
import Derived.Test.YtgnppnjhecfjeaaDoorQ18
import Derived.Test.YtgnppnjhecfjeaaDoorQ16
import Derived.Test.YtgnppnjhecfjeaaDoorQ9
import Derived.Deep.RegionHeld3
import Derived.Test.YtgnppnjhecfjeaaDoorQ2
import Derived.Test.YtgnppnjhecfjeaaDoorQ8
import Derived.Test.YtgnppnjhecfjeaaDoorQ7
import Derived.Test.YtgnppnjhecfjeaaDoorQ6
set_option linter.unusedSimpArgs false
set_option linter.unusedVariables false
/- The program's Put of layer 3. -/
namespace Go.Proofs.YtgnppnjhecfjeaaDoor
open Go.RowKit

theorem encode_any (h : Bool) (p l b v : Nat) (w : World) (hv : v < 18446744073709551616) (hp : p < 18446744073709551616) (hs : soundX ⟨h, p, l, b⟩ = true) (hT : Tab w) :
    Calls Tryd.prog 45 #[.agg #[.bool h, .int .u64 p, .int .u8 l, .int .u8 b], .int .u64 v] w fun e w' => EncOut (encX ⟨h, p, l, b⟩ v).1 (encX ⟨h, p, l, b⟩ v).2 w.heap.size e w' ∧ Below w.heap.size w w' := by
  unfold soundX at hs
  cases h
  · simp at hs
    have := encode_first p l b v _ w hv hp (by omega) rfl
    unfold encX
    rw [if_pos rfl]
    exact this
  · simp at hs
    unfold encX
    rw [if_neg (by simp)]
    by_cases h0 : v ^^^ p = 0
    · rw [if_pos h0]
      exact encode_same p l b v _ w hv hp (by omega) rfl h0
    · rw [if_neg h0]
      cases hh : holdsX l b (v ^^^ p)
      · rw [if_neg (by decide)]
        exact encode_new p l b v _ w hv hp (by omega) rfl hT h0 hh
      · rw [if_pos rfl]
        exact encode_old p l b v _ w hv hp (by omega) rfl h0 hh

/-- three boxes behind one another -/
theorem three_at (w : World) (b1 b2 b3 : Array Value) (t1 t2 t3 : TypeId) :
    Blk (((w.alloc (.cells b1 t1)).alloc (.cells b2 t2)).alloc (.cells b3 t3)) w.heap.size t1 b1 ∧ Blk (((w.alloc (.cells b1 t1)).alloc (.cells b2 t2)).alloc (.cells b3 t3)) (w.heap.size + 1) t2 b2 ∧
    Blk (((w.alloc (.cells b1 t1)).alloc (.cells b2 t2)).alloc (.cells b3 t3)) (w.heap.size + 2) t3 b3 ∧ Below w.heap.size w (((w.alloc (.cells b1 t1)).alloc (.cells b2 t2)).alloc (.cells b3 t3)) ∧ (((w.alloc (.cells b1 t1)).alloc (.cells b2 t2)).alloc (.cells b3 t3)).heap.size = w.heap.size + 3 := by
  have s1 : (w.alloc (.cells b1 t1)).heap.size = w.heap.size + 1 := by simp
  have s2 : ((w.alloc (.cells b1 t1)).alloc (.cells b2 t2)).heap.size = w.heap.size + 2 := by simp
  refine ⟨((Blk.new w _ _).alloc _).alloc _, ?_, ?_, ((below_alloc w _).alloc (by simp) _).alloc (by simp; omega) _, by simp⟩
  · have := (Blk.new (w.alloc (.cells b1 t1)) t2 b2).alloc (.cells b3 t3)
    rwa [s1] at this
  · have := Blk.new ((w.alloc (.cells b1 t1)).alloc (.cells b2 t2)) t3 b3
    rwa [s2] at this
theorem catE_two (l : List UInt8) (m : Nat) (M : List Bool) : catE [(l, (m : Int)), (pack M, (M.length : Int))] = bitl l m ++ M := by
  unfold catE
  simp [bits_pack]
theorem soundE_two {l : List UInt8} {m : Nat} (h : soundB l m = true) (M : List Bool) : soundE [(l, (m : Int)), (pack M, (M.length : Int))] = true := by
  unfold soundE
  simp [h, sound_pack]

set_option maxRecDepth 100000 in
set_option maxHeartbeats 1000000 in
theorem xput_any (A : Option Addr) (c : Nat) (l : List UInt8) (n : Int) (h : Bool) (p ld b v : Nat) (w : World) (hb : Bs w A l) (hn : -9223372036854775808 ≤ n ∧ n ≤ 9223372036854775807) (hl : l.length ≤ 100000)
    (hv : v < 18446744073709551616) (hp : p < 18446744073709551616) (hld : ld < 256) (hbb : b < 256) (hT : Tab w) :
    Calls Tryd.prog 18 #[.agg #[.slice A l.length c, .int .i64 n], .agg #[.bool h, .int .u64 p, .int .u8 ld, .int .u8 b], .int .u64 v] w fun e w' => PutOut (putX l n ⟨h, p, ld, b⟩ v) .u16 w.heap.size e w' ∧ Below w.heap.size w w' := by
  have F := four_new w #[.slice A l.length c, .int .i64 n] #[.bool h, .int .u64 p, .int .u8 ld, .int .u8 b] #[.slice none 0 0, .int .i64 0] #[.bool false, .int .u64 0, .int .u8 0, .int .u8 0] 24 27
  have hlm : l.length ≤ maxLen := by unfold maxLen; omega
  go_enter Tryd.func18, Tryd.ntmps18
  go_wp2_with fail
  have hb0 := hb.below F.t
  have HF := Lib.hid F
  clear F
  generalize (((w.alloc (.cells #[.slice A l.length c, .int .i64 n] 24)).alloc (.cells #[.bool h, .int .u64 p, .int .u8 ld, .int .u8 b] 27)).alloc (.cells #[.slice none 0 0, .int .i64 0] 24)).alloc (.cells #[.bool false, .int .u64 0, .int .u8 0, .int .u8 0] 27) = W at *
  refine (sound_any A c l n W hb0 hn hlm).mono ?_
  rintro e w1 ⟨rfl, b1⟩
  have HF1 := Lib.hid (HF.out.go b1)
  obtain ⟨⟨q0, q1, q2, q3⟩, g0, g1, g2, g3⟩ := HF1.out.h3.quad
  obtain ⟨⟨y0, y1⟩, x0, x1⟩ := HF1.out.h2.duo
  obtain ⟨⟨u0, u1, u2, u3⟩, -⟩ := HF1.out.h1.quad
  obtain ⟨⟨v0, v1⟩, -⟩ := HF1.out.h0.duo
  have a1 := hb0.below b1
  have HT := Lib.hid hT
  clear hT
  cases hs : soundB l n
  · have Hs := Lib.hid hs
    clear hs
    go_wp2_with fail
    have FF := HF1.out.fin (.slice none 0 0) (.int .i64 0) (.bool false) (.int .u64 0) (.int .u8 0) (.int .u8 0)
    obtain ⟨⟨s0, s1, s2, s3⟩, -⟩ := FF.h3.quad
    obtain ⟨⟨r0, r1⟩, -⟩ := FF.h2.duo
    refine bodyPost_ret (v := .tuple #[.agg #[.slice none 0 0, .int .i64 0], .agg #[.bool false, .int .u64 0, .int .u8 0, .int .u8 0], .int .u16 11]) (by simp [results, Tryd.results18, go_sem, r0, r1, s0, s1, s2, s3]) rfl ⟨?_, FF.t⟩
    unfold putX
    rw [if_pos Hs.out]
    exact ⟨none, 0, 0, rfl, rfl, OwnB.nil _ _⟩
  · have Hs := Lib.hid hs
    clear hs
    go_wp2_with fail
    refine (xsound_any h p ld b _ hld hbb).mono ?_
    rintro e w2 ⟨rfl, b2⟩
    have HF2 := Lib.hid (HF1.out.go b2)
    clear q0 q1 q2 q3 g0 g1 g2 g3 y0 y1 x0 x1 u0 u1 u2 u3 v0 v1
    obtain ⟨⟨q0, q1, q2, q3⟩, g0, g1, g2, g3⟩ := HF2.out.h3.quad
    obtain ⟨⟨y0, y1⟩, x0, x1⟩ := HF2.out.h2.duo
    obtain ⟨⟨u0, u1, u2, u3⟩, -⟩ := HF2.out.h1.quad
    obtain ⟨⟨v0, v1⟩, -⟩ := HF2.out.h0.duo
    have a2 := a1.below b2
    cases hx : soundX ⟨h, p, ld, b⟩
    · have Hx := Lib.hid hx
      clear hx
      go_wp2_with fail
      have FF := HF2.out.fin (.slice none 0 0) (.int .i64 0) (.bool false) (.int .u64 0) (.int .u8 0) (.int .u8 0)
      obtain ⟨⟨s0, s1, s2, s3⟩, -⟩ := FF.h3.quad
      obtain ⟨⟨r0, r1⟩, -⟩ := FF.h2.duo
      refine bodyPost_ret (v := .tuple #[.agg #[.slice none 0 0, .int .i64 0], .agg #[.bool false, .int .u64 0, .int .u8 0, .int .u8 0], .int .u16 30]) (by simp [results, Tryd.results18, go_sem, r0, r1, s0, s1, s2, s3]) rfl ⟨?_, FF.t⟩
      unfold putX
      rw [if_neg (by rw [Hs.out]; decide), if_pos Hx.out]
      exact ⟨none, 0, 0, rfl, rfl, OwnB.nil _ _⟩
    · obtain ⟨m, hm, hm8, -⟩ := sound_nat Hs.out
      have Hx := Lib.hid hx
      have HE := Lib.hid (encode_any h p ld b v w2 hv hp hx (tabGo HT.out HF2.out.t))
      clear hx
      subst hm
      go_wp2_with fail
      refine HE.out.mono ?_
      rintro e w3 ⟨HW, b3⟩
      obtain ⟨A3, n3, c3, hn3, rfl, o3⟩ := HW
      have hlen := enc_len (s := ⟨h, p, ld, b⟩) (v := v) Hx.out hp hv
      obtain ⟨M, th, tp, tl, tb, hMT⟩ : ∃ M th tp tl tb, encX ⟨h, p, ld, b⟩ v = (M, ⟨th, tp, tl, tb⟩) := ⟨_, _, _, _, _, rfl⟩
      simp only [hMT] at hn3 o3 hlen ⊢
      have HMT := Lib.hid hMT
      have HF3 := Lib.hid (HF2.out.go b3)
      clear q0 q1 q2 q3 g0 g1 g2 g3 y0 y1 x0 x1 u0 u1 u2 u3 v0 v1 hMT HE
      subst hn3
      have a3 := a2.below b3
      have HA3 := Lib.hid a3
      have HMl : Hid (M.length ≤ 77) := Lib.hid hlen.2
      clear hlen
      obtain ⟨⟨v0, v1⟩, -⟩ := HF3.out.h0.duo
      have kA := keepA
      have kF := keepF
      have Ho3 := Lib.hid o3
      clear o3
      go_wp2_with fail
      obtain ⟨b9, b10, b11, t34, s4⟩ := three_at w3 #[.slice A3 (pack M).length c3, .int .i64 M.length] #[.bool th, .int .u64 tp, .int .u8 tl, .int .u8 tb] #[.slice A l.length c, .int .i64 m, .slice A3 (pack M).length c3, .int .i64 M.length] 24 27 24
      obtain ⟨W4, hW4⟩ : ∃ W4, W4 = ((w3.alloc (.cells #[.slice A3 (pack M).length c3, .int .i64 M.length] 24)).alloc (.cells #[.bool th, .int .u64 tp, .int .u8 tl, .int .u8 tb] 27)).alloc (.cells #[.slice A l.length c, .int .i64 m, .slice A3 (pack M).length c3, .int .i64 M.length] 24) := ⟨_, rfl⟩
      rw [← hW4] at b9 b10 b11 t34 s4 ⊢
      have HBs : BsL W4 (some ⟨w3.heap.size + 2, 0, none⟩) [(l, (m : Int)), (pack M, (M.length : Int))] := fun i e hi => by
        match i, hi with
        | 0, hi =>
          simp at hi
          subst hi
          exact ⟨_, _, A, c, rfl, b11.cell 0, b11.cell 1, HA3.out.below t34, by simp only; omega⟩
        | 1, hi =>
          simp at hi
          subst hi
          exact ⟨_, _, A3, c3, rfl, b11.cell 2, b11.cell 3, (Ho3.out.below t34).bs, by simp only; have := HMl.out; omega⟩
        | i + 2, hi => simp at hi
      have hJ := join_ok (some ⟨w3.heap.size + 2, 0, none⟩) 2 [(l, (m : Int)), (pack M, (M.length : Int))] W4 HBs (soundE_two Hs.out M) (by simp) (by
        intro e he
        simp at he
        rcases he with rfl | rfl
        · simp only; omega
        · simp only; have := pack_le M HMl.out; omega)
      rw [catE_two] at hJ
      obtain ⟨BS, hBS⟩ : ∃ BS, BS = bitl l m ++ M := ⟨_, rfl⟩
      rw [← hBS] at hJ
      have HJ := Lib.hid hJ
      have HBS := Lib.hid hBS
      have HF4 := Lib.hid (HF3.out.go t34)
      have HX := Lib.hid b10
      have Hs4 := Lib.hid s4
      clear hJ hBS HBs b9 b10 b11 hW4 s4 kA kF v0 v1
      refine HJ.out.mono ?_
      rintro e w5 ⟨A5, c5, rfl, o5, b5⟩
      have HF5 := Lib.hid ((HF4.out.go b5).go (below_alloc w5 (.cells #[.slice A5 (pack BS).length c5, .int .i64 BS.length] 24)))
      have HX5 := Lib.hid ((HX.out.below b5 HX.out.lt).alloc (.cells #[.slice A5 (pack BS).length c5, .int .i64 BS.length] 24))
      have HY5 := Lib.hid (Blk.new w5 24 #[.slice A5 (pack BS).length c5, .int .i64 BS.length])
      have o6 := (o5.alloc (.cells #[.slice A5 (pack BS).length c5, .int .i64 BS.length] 24))
      go_wp2_with fail
      obtain ⟨W6, hW6⟩ : ∃ W6, W6 = w5.alloc (.cells #[.slice A5 (pack BS).length c5, .int .i64 BS.length] 24) := ⟨_, rfl⟩
      rw [← hW6] at HF5 HX5 HY5 o6 ⊢
      have z45 : w3.heap.size + 3 ≤ w5.heap.size := by have := b5.size; have := Hs4.out; omega
      have z3 := HF3.out.z
      obtain ⟨⟨m0, m1, m2, m3⟩, k0, k1, k2, k3⟩ := HF5.out.h3.quad
      obtain ⟨⟨y0, y1⟩, x0, x1⟩ := HF5.out.h2.duo
      have dq : W6.cell? ⟨w5.heap.size, 0, none⟩ = some (.slice A5 (pack BS).length c5) ∧ W6.cell? ⟨w5.heap.size, 1, none⟩ = some (.int .i64 BS.length) ∧ W6.cell? ⟨w3.heap.size + 1, 0, none⟩ = some (.bool th) ∧ W6.cell? ⟨w3.heap.size + 1, 1, none⟩ = some (.int .u64 tp) ∧ W6.cell? ⟨w3.heap.size + 1, 2, none⟩ = some (.int .u8 tl) ∧ W6.cell? ⟨w3.heap.size + 1, 3, none⟩ = some (.int .u8 tb) :=
        ⟨HY5.out.cell 0, HY5.out.cell 1, HX5.out.cell 0, HX5.out.cell 1, HX5.out.cell 2, HX5.out.cell 3⟩
      have nf1 := fun (W : World) (i j : Nat) (u : Value) => World.cell?_setCell_far W ⟨w.heap.size + 1 + 1, i, none⟩ ⟨w5.heap.size, j, none⟩ u (by simp; omega)
      have nf2 := fun (W : World) (i j : Nat) (u : Value) => World.cell?_setCell_far W ⟨w.heap.size + 1 + 1, i, none⟩ ⟨w3.heap.size + 1, j, none⟩ u (by simp; omega)
      have nf3 := fun (W : World) (i j : Nat) (u : Value) => World.cell?_setCell_far W ⟨w.heap.size + 1 + 1 + 1, i, none⟩ ⟨w5.heap.size, j, none⟩ u (by simp; omega)
      have nf4 := fun (W : World) (i j : Nat) (u : Value) => World.cell?_setCell_far W ⟨w.heap.size + 1 + 1 + 1, i, none⟩ ⟨w3.heap.size + 1, j, none⟩ u (by simp; omega)
      have ndr : ∀ (W : World) (a : Addr), W.drew.cell? a = W.cell? a := fun _ _ => rfl
      clear hW6 z45 z3
      go_region_held3 (fun w' => w'.cell? ⟨w5.heap.size, 0, none⟩ = some (.slice A5 (pack BS).length c5) ∧ w'.cell? ⟨w5.heap.size, 1, none⟩ = some (.int .i64 BS.length) ∧ w'.cell? ⟨w3.heap.size + 1, 0, none⟩ = some (.bool th) ∧ w'.cell? ⟨w3.heap.size + 1, 1, none⟩ = some (.int .u64 tp) ∧ w'.cell? ⟨w3.heap.size + 1, 2, none⟩ = some (.int .u8 tl) ∧ w'.cell? ⟨w3.heap.size + 1, 3, none⟩ = some (.int .u8 tb)) (first | (simp only [ndr]; with_reducible exact dq) | (simp only [ndr, nf1, nf2, nf3, nf4]; with_reducible exact dq)) (fail)
      go_wp2_with fail
      have FF := HF5.out.fin (.slice A5 (pack BS).length c5) (.int .i64 BS.length) (.bool th) (.int .u64 tp) (.int .u8 tl) (.int .u8 tb)
      obtain ⟨⟨s0, s1, s2, s3⟩, -⟩ := FF.h3.quad
      obtain ⟨⟨z0, z1⟩, -⟩ := FF.h2.duo
      have he : putX l m ⟨h, p, ld, b⟩ v = (pack BS, BS.length, ⟨th, tp, tl, tb⟩, 0) := by
        unfold putX
        rw [if_neg (by rw [Hs.out]; decide), if_neg (by rw [Hx.out]; decide), HMT.out, Int.toNat_natCast, ← HBS.out]
      rw [he]
      refine bodyPost_ret (v := .tuple #[.agg #[.slice A5 (pack BS).length c5, .int .i64 BS.length], .agg #[.bool th, .int .u64 tp, .int .u8 tl, .int .u8 tb], .int .u16 0]) (by simp [results, Tryd.results18, go_sem, z0, z1, s0, s1, s2, s3]) rfl ⟨⟨A5, _, c5, rfl, rfl, (o6.fin HF4.out.z (.slice A5 (pack BS).length c5) (.int .i64 BS.length) (.bool th) (.int .u64 tp) (.int .u8 tl) (.int .u8 tb)).drew⟩, FF.t.drew⟩

end Go.Proofs.YtgnppnjhecfjeaaDoor

/- known of layer 3. -/
namespace Go.Proofs.YtgnppnjhecfjeaaDoor
open Go.RowKit

theorem xput_M (A : Option Addr) (c : Nat) (M N : List Bool) (h : Bool) (p l b v : Nat) (T : XV) (w : World) (hE : encX ⟨h, p, l, b⟩ v = (N, T)) (hs : soundX ⟨h, p, l, b⟩ = true) (hb : Bs w A (pack M)) (hM : M.length ≤ 500000) (hv : v < 18446744073709551616) (hp : p < 18446744073709551616) (hT : Tab w) :
    Calls Tryd.prog 18 #[.agg #[.slice A (pack M).length c, .int .i64 M.length], .agg #[.bool h, .int .u64 p, .int .u8 l, .int .u8 b], .int .u64 v] w fun e w' =>
      ∃ A' c', e = .returned (.tuple #[.agg #[.slice A' (pack (M ++ N)).length c', .int .i64 ((M ++ N).length : Nat)], .agg #[.bool T.has, .int .u64 (T.prev : Nat), .int .u8 (T.lead : Nat), .int .u8 (T.width : Nat)], .int .u16 0]) ∧ OwnB w' w.heap.size (.slice A' (pack (M ++ N)).length c') (pack (M ++ N)) ∧ Below w.heap.size w w' := by
  have hlb : l < 256 ∧ b < 256 := by
    unfold soundX at hs
    cases h <;> simp at hs <;> omega
  refine (xput_any A c (pack M) M.length h p l b v w hb (by omega) (by rw [pack_length]; unfold nb; omega) hv hp hlb.1 hlb.2 hT).mono ?_
  rintro e w' ⟨⟨A', n', c', rfl, rfl, ho⟩, hB⟩
  have he : putX (pack M) M.length ⟨h, p, l, b⟩ v = (pack (M ++ N), (M ++ N).length, T, 0) := by
    unfold putX
    rw [if_neg (by rw [sound_pack]; decide), if_neg (by rw [hs]; decide), Int.toNat_natCast, bits_pack, hE]
  rw [he] at ho ⊢
  exact ⟨A', c', rfl, ho, hB⟩

theorem ex1 : encX ⟨false, 0, 0, 0⟩ 1 = (valB 1 64, ⟨true, 1, 0, 0⟩) := rfl
theorem ex2 : encX ⟨true, 1, 0, 0⟩ 1 = ([false], ⟨true, 1, 0, 0⟩) := by kernel_rfl
theorem ex3 : (encX ⟨true, 1, 0, 0⟩ 3).2 = ⟨true, 3, 31, 32⟩ ∧ (encX ⟨true, 1, 0, 0⟩ 3).1.length = 45 := ⟨by kernel_rfl, by kernel_rfl⟩
theorem ex4 : (encX ⟨true, 3, 31, 32⟩ 1).2 = ⟨true, 1, 31, 32⟩ ∧ (encX ⟨true, 3, 31, 32⟩ 1).1.length = 34 := ⟨by kernel_rfl, by kernel_rfl⟩

/-- two boxes behind one another -/
theorem two_at (w : World) (b1 b2 : Array Value) (t1 t2 : TypeId) :
    Blk ((w.alloc (.cells b1 t1)).alloc (.cells b2 t2)) w.heap.size t1 b1 ∧ Blk ((w.alloc (.cells b1 t1)).alloc (.cells b2 t2)) (w.heap.size + 1) t2 b2 ∧ Below w.heap.size w ((w.alloc (.cells b1 t1)).alloc (.cells b2 t2)) := by
  have s1 : (w.alloc (.cells b1 t1)).heap.size = w.heap.size + 1 := by simp
  refine ⟨(Blk.new w _ _).alloc _, ?_, (below_alloc w _).alloc (by simp) _⟩
  have := Blk.new (w.alloc (.cells b1 t1)) t2 b2
  rwa [s1] at this

set_option maxRecDepth 100000 in
set_option maxHeartbeats 1000000 in
theorem xknown_any (w : World) (hT : Tab w) : Calls Tryd.prog 15 #[] w fun e w' => e = .returned (.bool true) ∧ Below w.heap.size w w' := by
  have HT := Lib.hid hT
  clear hT
  obtain ⟨N3, hN3, hl3⟩ : ∃ N, encX ⟨true, 1, 0, 0⟩ 3 = (N, ⟨true, 3, 31, 32⟩) ∧ N.length = 45 := ⟨_, by rw [← ex3.1], ex3.2⟩
  obtain ⟨N4, hN4, hl4⟩ : ∃ N, encX ⟨true, 3, 31, 32⟩ 1 = (N, ⟨true, 1, 31, 32⟩) ∧ N.length = 34 := ⟨_, by rw [← ex4.1], ex4.2⟩
  have H3 := Lib.hid hN3
  have H4 := Lib.hid hN4
  obtain ⟨M1, hM1⟩ : ∃ M, M = [] ++ valB 1 64 := ⟨_, rfl⟩
  obtain ⟨M2, hM2⟩ : ∃ M, M = M1 ++ [false] := ⟨_, rfl⟩
  obtain ⟨M3, hM3⟩ : ∃ M, M = M2 ++ N3 := ⟨_, rfl⟩
  obtain ⟨M4, hM4⟩ : ∃ M, M = M3 ++ N4 := ⟨_, rfl⟩
  have l1 : M1.length = 64 := by rw [hM1]; simp [valB_length]
  have l2 : M2.length = 65 := by rw [hM2]; simp [l1]
  have l3 : M3.length = 110 := by rw [hM3]; simp [l2, hl3]
  have l4 : M4.length = 144 := by rw [hM4]; simp [l3, hl4]
  have K1 := Lib.hid hM1
  have K2 := Lib.hid hM2
  have K3 := Lib.hid hM3
  have K4 := Lib.hid hM4
  have L1 := Lib.hid l1
  have L2 := Lib.hid l2
  have L3 := Lib.hid l3
  have L4 := Lib.hid l4
  have c0 := Lib.hid (xput_M none 0 [] (valB 1 64) false 0 0 0 1 ⟨true, 1, 0, 0⟩ w ex1 rfl (Bs.nil _ _) (by simp) (by decide) (by decide) HT.out)
  clear hN3 hN4 hM1 hM2 hM3 hM4 l1 l2 l3 l4 hl3 hl4
  go_enter Tryd.func15, Tryd.ntmps15
  go_wp2_with fail
  refine c0.out.mono ?_
  rintro e w1 ⟨A1, c1, rfl, o1, b1⟩
  rw [← K1.out] at o1 ⊢
  obtain ⟨d1, -, s1⟩ := two_at w1 #[.slice A1 (pack M1).length c1, .int .i64 M1.length] #[.bool true, .int .u64 1, .int .u8 0, .int .u8 0] 24 27
  obtain ⟨W1, hW1⟩ : ∃ W, W = (w1.alloc (.cells #[.slice A1 (pack M1).length c1, .int .i64 M1.length] 24)).alloc (.cells #[.bool true, .int .u64 1, .int .u8 0, .int .u8 0] 27) := ⟨_, rfl⟩
  rw [← hW1] at d1 s1
  have D1 := Lib.hid d1
  have t1 : Below w.heap.size w W1 := on1 b1 s1
  have HW1 := Lib.hid hW1
  have c2 := Lib.hid (xput_M A1 c1 M1 [false] true 1 0 0 1 ⟨true, 1, 0, 0⟩ W1 ex2 rfl (o1.below s1).bs (by have := L1.out; omega) (by decide) (by decide) (tabGo HT.out t1))
  clear d1 hW1 o1
  go_wp2_with fail
  rw [← HW1.out]
  refine c2.out.mono ?_
  clear c2
  rintro e w2 ⟨A2, c2, rfl, o2, b2⟩
  rw [← K2.out] at o2 ⊢
  obtain ⟨d2, x2, s2⟩ := two_at w2 #[.slice A2 (pack M2).length c2, .int .i64 M2.length] #[.bool true, .int .u64 1, .int .u8 0, .int .u8 0] 24 27
  obtain ⟨W2, hW2⟩ : ∃ W, W = (w2.alloc (.cells #[.slice A2 (pack M2).length c2, .int .i64 M2.length] 24)).alloc (.cells #[.bool true, .int .u64 1, .int .u8 0, .int .u8 0] 27) := ⟨_, rfl⟩
  rw [← hW2] at d2 x2 s2
  have D2 := Lib.hid d2
  have t2 : Below w.heap.size w W2 := on1 (on1 t1 b2) s2
  have HW2 := Lib.hid hW2
  have E1 := Lib.hid ((D1.out.below b2 D1.out.lt).below s2 (D1.out.below b2 D1.out.lt).lt)
  clear D1
  have D1 := E1
  clear E1
  have c3 := Lib.hid (xput_M A2 c2 M2 N3 true 1 0 0 3 ⟨true, 3, 31, 32⟩ W2 H3.out rfl (o2.below s2).bs (by have := L2.out; omega) (by decide) (by decide) (tabGo HT.out t2))
  clear d2 x2 hW2 o2
  go_wp2_with fail
  rw [← HW2.out]
  refine c3.out.mono ?_
  clear c3
  rintro e w3 ⟨A3, c3, rfl, o3, b3⟩
  rw [← K3.out] at o3 ⊢
  obtain ⟨d3, x3, s3⟩ := two_at w3 #[.slice A3 (pack M3).length c3, .int .i64 M3.length] #[.bool true, .int .u64 3, .int .u8 31, .int .u8 32] 24 27
  obtain ⟨W3, hW3⟩ : ∃ W, W = (w3.alloc (.cells #[.slice A3 (pack M3).length c3, .int .i64 M3.length] 24)).alloc (.cells #[.bool true, .int .u64 3, .int .u8 31, .int .u8 32] 27) := ⟨_, rfl⟩
  rw [← hW3] at d3 x3 s3
  have D3 := Lib.hid d3
  have t3 : Below w.heap.size w W3 := on1 (on1 t2 b3) s3
  have HW3 := Lib.hid hW3
  have E1 := Lib.hid ((D1.out.below b3 D1.out.lt).below s3 (D1.out.below b3 D1.out.lt).lt)
  clear D1
  have D1 := E1
  clear E1
  have E2 := Lib.hid ((D2.out.below b3 D2.out.lt).below s3 (D2.out.below b3 D2.out.lt).lt)
  clear D2
  have D2 := E2
  clear E2
  have X3 := Lib.hid x3
  have c4 := Lib.hid (xput_M A3 c3 M3 N4 true 3 31 32 1 ⟨true, 1, 31, 32⟩ W3 H4.out rfl (o3.below s3).bs (by have := L3.out; omega) (by decide) (by decide) (tabGo HT.out t3))
  clear d3 x3 hW3 o3
  go_wp2_with fail
  rw [← HW3.out]
  refine c4.out.mono ?_
  clear c4
  rintro e w4 ⟨A4, c4, rfl, o4, b4⟩
  rw [← K4.out] at o4 ⊢
  have t4 : Below w.heap.size w w4 := on1 t3 b4
  have f1 := (D1.out.below b4 D1.out.lt).cell 1
  have f2 := (D2.out.below b4 D2.out.lt).cell 1
  have f3 := (D3.out.below b4 D3.out.lt).cell 1
  obtain ⟨⟨u0, u1, u2, u3⟩, -⟩ := (X3.out.below b4 X3.out.lt).quad
  have g1 : ((M1.length : Int) == 64) = true := by rw [L1.out]; rfl
  have g2 : ((M2.length : Int) == 65) = true := by rw [L2.out]; rfl
  have g3 : ((M3.length : Int) == 110) = true := by rw [L3.out]; rfl
  have g4 : IntKind.i64.wrap ((M3.length : Int) + 34) = (M4.length : Int) := by rw [L3.out, L4.out]; rfl
  have y1 := D1.out.lt
  have y2 := D2.out.lt
  have y3 := D3.out.lt
  have y4 := X3.out.lt
  have z4 := b4.size
  clear o4
  have kA := keepA
  have kF := keepF
  go_wp2_with fail
  go_ret
  exact ⟨rfl, t4.trans ((below_alloc2 w4 _ _).mono t4.size)⟩

theorem one_at (w : World) (b : Array Value) (t : TypeId) : Blk (w.alloc (.cells b t)) w.heap.size t b ∧ Below w.heap.size w (w.alloc (.cells b t)) := ⟨Blk.new w _ _, below_alloc w _⟩

theorem putX_code (l : List UInt8) (n : Int) (s : XV) (v : Nat) : (putX l n s v).2.2.2 ≤ 30 := by
  unfold putX
  split
  · simp
  · split <;> simp

end Go.Proofs.YtgnppnjhecfjeaaDoor

/- Layer 3's reading in the band that there is. -/
namespace Go.Proofs.YtgnppnjhecfjeaaDoor
open Go.RowKit

/-- what a step of the decoding answers: a is where it began -/
def DecOut (D : Nat × Nat × Nat × Nat × Nat) (a : Nat) (e : Ending) : Prop :=
  ∃ (d : Nat) (nx : Int) (bl bw c : Nat), e = .returned (.tuple #[.int .u64 d, .int .i64 nx, .agg #[.int .i64 bl, .int .i64 bw], .int .u16 c]) ∧ c = D.2.2.2.2 ∧
    (c = 0 → d = D.1 ∧ nx = ((a + D.2.1 : Nat) : Int) ∧ bl = D.2.2.1 ∧ bw = D.2.2.2.1)

set_option maxRecDepth 100000 in
set_option maxHeartbeats 1000000 in
theorem decodeOld_any (A : Option Addr) (c : Nat) (l : List UInt8) (m a L X : Nat) (w : World) (hb : Bs w A l) (hs : soundB l (m : Int) = true) (hl : l.length ≤ 100000) (ha : a ≤ m) (hm : m ≤ 800000) (hLW : L + X ≤ 64) :
    Calls Tryd.prog 63 #[.agg #[.slice A l.length c, .int .i64 m], .int .i64 a, .agg #[.int .i64 L, .int .i64 X]] w fun e w' => DecOut (oldD L X ((bitl l m).drop a)) a e ∧ Below w.heap.size w w' := by
  obtain ⟨g1, g2, hG, hg1, hg2, hc, hok⟩ := old_facts (L := L) (W := X) hs ha hLW
  obtain ⟨D, hD⟩ : ∃ D, D = oldD L X ((bitl l m).drop a) := ⟨_, rfl⟩
  rw [← hD] at hc hok ⊢
  clear hD
  obtain ⟨d0, d1, d2, t0, z0⟩ := three_at w #[.slice A l.length c, .int .i64 m] #[.int .i64 L, .int .i64 X] #[.int .i64 0, .int .i64 0] 24 80 80
  have hsh := shl_lt hg1 hLW
  obtain ⟨s0, hs0⟩ : ∃ s0 : Nat, s0 = 64 - L - X := ⟨_, rfl⟩
  rw [← hs0] at hsh hok
  have hs0' : (64 : Int) - L - X = s0 := by omega
  have j4 : min s0 64 = s0 := by omega
  obtain ⟨dd, hdd⟩ : ∃ dd : Nat, dd = g1 * 2 ^ s0 := ⟨_, rfl⟩
  rw [← hdd] at hsh hok
  have f1 : IntKind.u64.wrap ((g1 : Int) * 2 ^ s0) = (dd : Int) := by
    have e : ((g1 : Int) * 2 ^ s0) = (dd : Int) := by rw [hdd]; simp
    rw [e, IntKind.wrap_u64]; omega
  have f2 : IntKind.i64.wrap ((a : Int) + X) = (a : Int) + X := by rw [IntKind.wrap_i64]; omega
  go_enter Tryd.func63, Tryd.ntmps63
  go_wp2_with fail
  generalize (((w.alloc (.cells #[.slice A l.length c, .int .i64 m] 24)).alloc (.cells #[.int .i64 L, .int .i64 X] 80)).alloc (.cells #[.int .i64 0, .int .i64 0] 80)) = W0 at *
  have h := get_any A c l m a X W0 (hb.below t0) (by omega) (by omega) (by omega) (by omega)
  rw [hG] at h
  have HG := Lib.hid h
  have HS0' := Lib.hid hs0'
  have Hok := Lib.hid hok
  have Hc := Lib.hid hc
  clear h hG hs0' hok hc hdd hs0 hs
  refine HG.out.mono ?_
  rintro e w1 ⟨rfl, b1⟩
  have t1 := on1 t0 b1
  have HL := Lib.hid (d1.below b1 d1.lt)
  have HR := Lib.hid (d2.below b1 d2.lt)
  have Z1 : w.heap.size + 3 ≤ w1.heap.size := by have := b1.size; omega
  clear HG b1 d0 d1 d2 t0 z0 hb
  obtain ⟨dq0, dq1⟩ := HL.out.duo.1
  obtain ⟨⟨r0, r1⟩, r2, r3⟩ := HR.out.duo
  have dq : w1.cell? ⟨w.heap.size + 1, 0, none⟩ = some (.int .i64 L) ∧ w1.cell? ⟨w.heap.size + 1, 1, none⟩ = some (.int .i64 X) := ⟨dq0, dq1⟩
  have ndr : ∀ (W : World) (a : Addr), W.drew.cell? a = W.cell? a := fun _ _ => rfl
  have nf1 := fun (W : World) (i j : Nat) (u : Value) => World.cell?_setCell_far W ⟨w.heap.size + 1 + 1, i, none⟩ ⟨w.heap.size + 1, j, none⟩ u (by simp)
  have H14 : Hid (∀ w4, Below (w1.drew).heap.size (w1.drew) w4 → Below w1.heap.size w1 w4) := Lib.hid fun w4 h => (Below.refl _ _).drew.trans h
  obtain ⟨cc, hcc⟩ : ∃ cc : Nat, cc = (if g2 = 0 ∧ g1 = 0 then 30 else g2) := ⟨_, rfl⟩
  have c3 : (((g2 : Int) == 0) = true ∧ ((g1 : Int) == 0) = true ∧ cc = 30) ∨ (((g2 : Int) == 0) = true ∧ ((g1 : Int) == 0) = false ∧ cc = g2) ∨ (((g2 : Int) == 0) = false ∧ cc = g2) := by
    by_cases h2 : g2 = 0
    · by_cases h1 : g1 = 0
      · exact Or.inl ⟨by rw [h2]; rfl, by rw [h1]; rfl, by rw [hcc, if_pos ⟨h2, h1⟩]⟩
      · exact Or.inr (Or.inl ⟨by rw [h2]; rfl, beq_eq_false_iff_ne.2 (by omega), by rw [hcc, if_neg (fun h => h1 h.2)]⟩)
    · exact Or.inr (Or.inr ⟨beq_eq_false_iff_ne.2 (by omega), by rw [hcc, if_neg (fun h => h2 h.1)]⟩)
  have Hcc := Lib.hid hcc
  clear hcc
  rcases c3 with ⟨k1, k2, k3⟩ | ⟨k1, k2, k3⟩ | ⟨k1, k3⟩
  all_goals
    have K3 := Lib.hid k3
    clear k3
    go_wp2_with fail
    go_region_held3 (fun w' => w'.cell? ⟨w.heap.size + 1, 0, none⟩ = some (.int .i64 L) ∧ w'.cell? ⟨w.heap.size + 1, 1, none⟩ = some (.int .i64 X)) (first | with_reducible exact dq | with_reducible exact rr | (simp only [ndr]; with_reducible exact dq) | (simp only [nf1]; with_reducible exact rr) | (simp only [ndr, nf1]; with_reducible exact rr))
      ((go_at_call 48; refine (behind_any L X _ (by omega) (by omega)).mono ?_; rintro e w4 ⟨rfl, b4⟩; have b14 := H14.out w4 b4; have HL4 := Lib.hid (HL.out.below b14 HL.out.lt); have HR4 := Lib.hid (HR.out.below b14 HR.out.lt); have rr := HL4.out.duo.1; obtain ⟨⟨y0, y1⟩, x0, x1⟩ := HR4.out.duo; rw [HS0'.out]))
    go_wp2_with fail
  all_goals
    have FR : Blk _ (w.heap.size + 1 + 1) 80 #[.int .i64 L, .int .i64 X] := HR4.out.set2 (.int .i64 L) (.int .i64 X)
    obtain ⟨⟨v0, v1⟩, -⟩ := FR.duo
    have TF := ((on1 t1 b14).setCell (p := ⟨w.heap.size + 1 + 1, 0, none⟩) (by simp; omega) (.int .i64 L)).setCell (p := ⟨w.heap.size + 1 + 1, 1, none⟩) (by simp; omega) (.int .i64 X)
    have HF : Hid (cc = 0 → dd = D.1 ∧ (a : Int) + X = ((a + D.2.1 : Nat) : Int) ∧ L = D.2.2.1 ∧ X = D.2.2.2.1) := Lib.hid fun h => by
      obtain ⟨e1, e2, e3, e4⟩ := Hok.out (by rw [Hc.out, ← Hcc.out]; exact h)
      exact ⟨e1, by rw [e2]; simp, e3.symm, e4.symm⟩
  · skip
    refine bodyPost_ret (v := .tuple #[.int .u64 dd, .int .i64 ((a : Int) + X), .agg #[.int .i64 L, .int .i64 X], .int .u16 30]) (by simp [results, Tryd.results63, go_sem, v0, v1]) rfl ⟨⟨dd, (a : Int) + X, L, X, cc, by rw [K3.out]; rfl, Hcc.out.trans Hc.out.symm, HF.out⟩, TF⟩
  · skip
    refine bodyPost_ret (v := .tuple #[.int .u64 dd, .int .i64 ((a : Int) + X), .agg #[.int .i64 L, .int .i64 X], .int .u16 g2]) (by simp [results, Tryd.results63, go_sem, v0, v1]) rfl ⟨⟨dd, (a : Int) + X, L, X, cc, by rw [K3.out], Hcc.out.trans Hc.out.symm, HF.out⟩, TF⟩
  · skip
    refine bodyPost_ret (v := .tuple #[.int .u64 dd, .int .i64 ((a : Int) + X), .agg #[.int .i64 L, .int .i64 X], .int .u16 g2]) (by simp [results, Tryd.results63, go_sem, v0, v1]) rfl ⟨⟨dd, (a : Int) + X, L, X, cc, by rw [K3.out], Hcc.out.trans Hc.out.symm, HF.out⟩, TF⟩

end Go.Proofs.YtgnppnjhecfjeaaDoor

/- Layer 3's reading of a band and a difference in it. -/
namespace Go.Proofs.YtgnppnjhecfjeaaDoor
open Go.RowKit

theorem mask6 (L : Nat) (hL : L < 18446744073709551616) : bits .and .u64 (L : Int) 63 = ((L % 64 : Nat) : Int) := by
  have h := bits_mask .u64 64 (by decide) (fun n h0 h1 => by have := wrap_big n.toNat (by omega); rwa [Int.toNat_of_nonneg h0] at this) 6 (by decide) (L : Int) (by omega) (by omega)
  rw [show ((2 : Int) ^ 6 - 1) = 63 from rfl] at h
  rw [h]; omega

set_option maxRecDepth 100000 in
set_option maxHeartbeats 1000000 in
theorem decodeNew_any (A : Option Addr) (c : Nat) (l : List UInt8) (m a L X : Nat) (w : World) (hb : Bs w A l) (hs : soundB l (m : Int) = true) (hl : l.length ≤ 100000) (ha : a ≤ m) (hm : m ≤ 800000) (hLW : L + X ≤ 64) (hT : Tab w) :
    Calls Tryd.prog 64 #[.agg #[.slice A l.length c, .int .i64 m], .int .i64 a, .agg #[.int .i64 L, .int .i64 X]] w fun e w' => DecOut (newD L X ((bitl l m).drop a)) a e ∧ Below w.heap.size w w' := by
  obtain ⟨g1, g2, hG, hc⟩ := new_facts (L := L) (W := X) hs ha
  obtain ⟨D, hD⟩ : ∃ D, D = newD L X ((bitl l m).drop a) := ⟨_, rfl⟩
  rw [← hD] at hc ⊢
  clear hD
  obtain ⟨d0, d1, d2, t0, z0⟩ := three_at w #[.slice A l.length c, .int .i64 m] #[.int .i64 L, .int .i64 X] #[.int .i64 0, .int .i64 0] 24 80 80
  go_enter Tryd.func64, Tryd.ntmps64
  go_wp2_with fail
  generalize (((w.alloc (.cells #[.slice A l.length c, .int .i64 m] 24)).alloc (.cells #[.int .i64 L, .int .i64 X] 80)).alloc (.cells #[.int .i64 0, .int .i64 0] 80)) = W0 at *
  have h := get_any A c l m a 11 W0 (hb.below t0) (by omega) (by omega) (by omega) (by omega)
  rw [hG] at h
  have HG := Lib.hid h
  have HC := Lib.hid hc
  have HT := Lib.hid (tabGo hT t0)
  clear h hG hc hT
  refine HG.out.mono ?_
  rintro e w1 ⟨rfl, b1⟩
  have t1 := on1 t0 b1
  have HA := Lib.hid (d0.below b1 d0.lt)
  have HL := Lib.hid (d1.below b1 d1.lt)
  have HR := Lib.hid (d2.below b1 d2.lt)
  have HT1 := Lib.hid (tabGo HT.out b1)
  have hb1 := Lib.hid ((hb.below t0).below b1)
  have Z1 : w.heap.size + 3 ≤ w1.heap.size := by have := b1.size; omega
  clear HG b1 d0 d1 d2 t0 z0 hb HT
  obtain ⟨⟨r0, r1⟩, r2, r3⟩ := HR.out.duo
  rcases HC.out with ⟨h2, h1, hD⟩ | ⟨h2, h1, ha11, hc⟩
  · have HD := Lib.hid hD
    clear hD
    subst h1 h2
    go_wp2_with fail
    have FR : Blk _ (w.heap.size + 1 + 1) 80 #[.int .i64 0, .int .i64 0] := HR.out.set2 (.int .i64 0) (.int .i64 0)
    obtain ⟨⟨v0, v1⟩, -⟩ := FR.duo
    have TF := (t1.setCell (p := ⟨w.heap.size + 1 + 1, 0, none⟩) (by simp; omega) (.int .i64 0)).setCell (p := ⟨w.heap.size + 1 + 1, 1, none⟩) (by simp; omega) (.int .i64 0)
    refine bodyPost_ret (v := .tuple #[.int .u64 0, .int .i64 0, .agg #[.int .i64 0, .int .i64 0], .int .u16 10]) (by simp [results, Tryd.results64, go_sem, v0, v1]) rfl ⟨⟨0, 0, 0, 0, 10, rfl, by rw [HD.out], fun h => by cases h⟩, TF⟩
  · have Hc := Lib.hid hc
    have Ha11 := Lib.hid ha11
    clear hc ha11 HC
    subst h2
    obtain ⟨p, hp⟩ : ∃ p : Nat, p = g1 / 64 := ⟨_, rfl⟩
    obtain ⟨q, hq⟩ : ∃ q : Nat, q = g1 % 64 := ⟨_, rfl⟩
    obtain ⟨x, hx⟩ : ∃ x : Nat, x = q + 1 := ⟨_, rfl⟩
    have p1 : p < 32 := by omega
    have q1 : q < 64 := by omega
    have x1 : x ≤ 64 := by omega
    have f1 : (g1 : Int) / 64 = (p : Int) := by omega
    have f2 : bits .and .u64 (g1 : Int) 63 = (q : Int) := by rw [hq]; exact mask6 g1 (by omega)
    have f3 : IntKind.i64.wrap (q : Int) = (q : Int) := by rw [IntKind.wrap_i64]; omega
    have f4 : IntKind.i64.wrap ((q : Int) + 1) = (x : Int) := by rw [IntKind.wrap_i64]; omega
    have hc := Hc.out
    rw [← hp, ← hq, ← hx] at hc
    have Hc2 := Lib.hid hc
    have Hx := Lib.hid hx
    have Hp := Lib.hid hp
    have Hq := Lib.hid hq
    clear hc Hc hp hq hx
    go_wp2_with fail
    have eB := below_alloc w1 (.cells #[.int .i64 p, .int .i64 x] 80)
    have HB := Lib.hid (Blk.new w1 80 #[.int .i64 p, .int .i64 x])
    refine (behind_any p x _ (by omega) (by omega)).mono ?_
    rintro e w2 ⟨rfl, b2⟩
    have b12 := on1 eB b2
    have t2 := on1 t1 b12
    have HA2 := Lib.hid (HA.out.below b12 HA.out.lt)
    have HL2 := Lib.hid (HL.out.below b12 HL.out.lt)
    have HR2 := Lib.hid (HR.out.below b12 HR.out.lt)
    have HB2 := Lib.hid (HB.out.below b2 HB.out.lt)
    have HT2 := Lib.hid (tabGo HT1.out b12)
    have hb2 := Lib.hid (hb1.out.below b12)
    have Z2 : w.heap.size + 3 ≤ w2.heap.size := by have := b12.size; omega
    clear eB b2 b12 HA HL HR HB HT1 hb1 r0 r1 r2 r3 t1
    obtain ⟨⟨r0, r1⟩, r2, r3⟩ := HR2.out.duo
    obtain ⟨⟨y0, y1⟩, -⟩ := HB2.out.duo
    obtain ⟨⟨u0, u1⟩, -⟩ := HA2.out.duo
    rcases Hc2.out with ⟨h64, hD⟩ | ⟨h64, hc⟩
    · have HD := Lib.hid hD
      have k1 : (64 : Int) - p - x < 0 := by omega
      clear hD h64
      go_wp2_with fail
      have FR : Blk _ (w.heap.size + 1 + 1) 80 #[.int .i64 0, .int .i64 0] := HR2.out.set2 (.int .i64 0) (.int .i64 0)
      obtain ⟨⟨v0, v1⟩, -⟩ := FR.duo
      have TF := (t2.setCell (p := ⟨w.heap.size + 1 + 1, 0, none⟩) (by simp; omega) (.int .i64 0)).setCell (p := ⟨w.heap.size + 1 + 1, 1, none⟩) (by simp; omega) (.int .i64 0)
      refine bodyPost_ret (v := .tuple #[.int .u64 0, .int .i64 0, .agg #[.int .i64 0, .int .i64 0], .int .u16 30]) (by simp [results, Tryd.results64, go_sem, v0, v1]) rfl ⟨⟨0, 0, 0, 0, 30, rfl, by rw [HD.out], fun h => by cases h⟩, TF⟩
    · obtain ⟨s0, hs0⟩ : ∃ s0 : Nat, s0 = 64 - p - x := ⟨_, rfl⟩
      have hs0' : (64 : Int) - p - x = s0 := by omega
      have f5 : IntKind.i64.wrap ((a : Int) + 11) = ((a + 11 : Nat) : Int) := by rw [IntKind.wrap_i64]; omega
      obtain ⟨a11, ha11⟩ : ∃ a11 : Nat, a11 = a + 11 := ⟨_, rfl⟩
      rw [← ha11] at f5
      have Ha := Ha11.out
      obtain ⟨n1, n2, hG, hn1, hc⟩ := hc
      rw [← hs0] at hc
      rw [← ha11] at hG
      have h := get_any A c l m a11 x w2 hb2.out (by omega) (by omega) (by omega) (by omega)
      rw [hG] at h
      have HG := Lib.hid h
      have Hc3 := Lib.hid hc
      have Ha' := Lib.hid ha11
      have Hn1 := Lib.hid hn1
      have Hs0 := Lib.hid hs0
      rw [hs0']
      have HS0' := Lib.hid hs0'
      clear hG hc h ha11 Ha hn1 hs0
      go_wp2_with fail
      refine HG.out.mono ?_
      rintro e w3 ⟨rfl, b3⟩
      have t3 := on1 t2 b3
      have HL3 := Lib.hid (HL2.out.below b3 HL2.out.lt)
      have HR3 := Lib.hid (HR2.out.below b3 HR2.out.lt)
      have HB3 := Lib.hid (HB2.out.below b3 HB2.out.lt)
      have HT3 := Lib.hid (tabGo HT2.out b3)
      have Z3 : w.heap.size + 3 ≤ w3.heap.size := by have := b3.size; omega
      clear HG b3 HA2 HL2 HR2 HB2 HT2 hb2 r0 r1 r2 r3 y0 y1 u0 u1 t2
      obtain ⟨⟨y0, y1⟩, -⟩ := HB3.out.duo
      have hsh := shl_lt (g := n1) (W := x) (L := p) Hn1.out (by omega)
      rw [← Hs0.out] at hsh
      obtain ⟨d, hd⟩ : ∃ d : Nat, d = n1 * 2 ^ s0 := ⟨_, rfl⟩
      rw [← hd] at hsh
      have f6 : IntKind.u64.wrap ((n1 : Int) * 2 ^ s0) = (d : Int) := by
        have e : ((n1 : Int) * 2 ^ s0) = (d : Int) := by rw [hd]; simp
        rw [e, IntKind.wrap_u64]; omega
      have j4 : min s0 64 = s0 := by have := Hs0.out; omega
      have hc := Hc3.out
      rw [← hd] at hc
      have Hc4 := Lib.hid hc
      have Hsh := Lib.hid hsh
      clear hc Hc3 hd hsh hs0'
      go_wp2_with fail
      refine (behind_any p x _ (by omega) (by omega)).mono ?_
      rintro e w4 ⟨rfl, b4⟩
      have t4 := on1 t3 b4
      have HL4 := Lib.hid (HL3.out.below b4 HL3.out.lt)
      have HR4 := Lib.hid (HR3.out.below b4 HR3.out.lt)
      have HB4 := Lib.hid (HB3.out.below b4 HB3.out.lt)
      have HT4 := Lib.hid (tabGo HT3.out b4)
      have Z4 : w.heap.size + 3 ≤ w4.heap.size := by have := b4.size; omega
      clear b4 HL3 HR3 HB3 HT3 y0 y1 t3 Z2 Z3
      obtain ⟨⟨y0, y1⟩, -⟩ := HB4.out.duo
      obtain ⟨⟨l0, l1⟩, -⟩ := HL4.out.duo
      obtain ⟨⟨r0, r1⟩, r2, r3⟩ := HR4.out.duo
      rw [HS0'.out]
      go_wp2_with fail
      have hp := plus_cell w4
      rcases Hc4.out with ⟨h2, h1, hD⟩ | ⟨h2, hc⟩
      · have k1 : ((n2 : Int) == 0) = false := by rw [h2]; rfl
        have HD := Lib.hid hD
        clear hD
        refine wp_region_tail_ext 10 (by kernel_rfl) (by kernel_rfl) ?_
        simp only [List.take_succ_cons, List.take_zero, List.drop_succ_cons, List.drop_zero]
        repeat (go_big_quiet_step (fail))
        refine wpQuiet_nil ?_
        rintro w5 ⟨z, rfl⟩
        have hz := plus_below w4 z
        have HL5 := Lib.hid (HL4.out.below hz HL4.out.lt)
        have HR5 := Lib.hid (HR4.out.below hz HR4.out.lt)
        have HB5 := Lib.hid (HB4.out.below hz HB4.out.lt)
        have t5 := on1 t4 hz
        clear hp
        obtain ⟨b0, b1⟩ := HB5.out.duo.1
        obtain ⟨⟨o0, o1⟩, o2, o3⟩ := HR5.out.duo
        have dq : (plus w4 z).cell? ⟨w1.heap.size, 0, none⟩ = some (.int .i64 p) ∧ (plus w4 z).cell? ⟨w1.heap.size, 1, none⟩ = some (.int .i64 x) := ⟨b0, b1⟩
        have ndr : ∀ (W : World) (a : Addr), W.drew.cell? a = W.cell? a := fun _ _ => rfl
        have nf1 := fun (W : World) (i j : Nat) (u : Value) => World.cell?_setCell_far W ⟨w.heap.size + 1 + 1, i, none⟩ ⟨w1.heap.size, j, none⟩ u (by simp; omega)
        have f7 : IntKind.i64.wrap ((a11 : Int) + x) = (a11 : Int) + x := by rw [IntKind.wrap_i64]; have := Ha'.out; omega
        go_wp2_with fail
        go_region_held3 (fun w' => w'.cell? ⟨w1.heap.size, 0, none⟩ = some (.int .i64 p) ∧ w'.cell? ⟨w1.heap.size, 1, none⟩ = some (.int .i64 x)) (first | with_reducible exact dq | (simp only [ndr]; with_reducible exact dq) | (simp only [nf1]; with_reducible exact dq) | (simp only [ndr, nf1]; with_reducible exact dq)) (fail)
        go_wp2_with fail
        have FR : Blk _ (w.heap.size + 1 + 1) 80 #[.int .i64 p, .int .i64 x] := HR5.out.set2 (.int .i64 p) (.int .i64 x)
        obtain ⟨⟨v0, v1⟩, -⟩ := FR.duo
        have TF := (t5.setCell (p := ⟨w.heap.size + 1 + 1, 0, none⟩) (by simp; omega) (.int .i64 p)).setCell (p := ⟨w.heap.size + 1 + 1, 1, none⟩) (by simp; omega) (.int .i64 x)
        refine bodyPost_ret (v := .tuple #[.int .u64 d, .int .i64 ((a11 : Int) + x), .agg #[.int .i64 p, .int .i64 x], .int .u16 10]) (by simp [results, Tryd.results64, go_sem, v0, v1]) rfl ⟨⟨d, (a11 : Int) + x, p, x, 10, rfl, by rw [HD.out], fun h => by cases h⟩, TF.drew⟩
      · have k1 : ((n2 : Int) == 0) = true := by rw [h2]; rfl
        rcases hc with ⟨hh, hD⟩ | ⟨hh, hc⟩
        · have HD := Lib.hid hD
          have hH : ∀ z : More, Calls Tryd.prog 67 #[.agg #[.int .i64 L, .int .i64 X], .int .u64 d] (plus w4 z) fun e w'' => e = .returned (.bool true) ∧ ∃ x', w'' = plus w4 x' := fun z => by
            have h := holds_any L X d (plus w4 z) hLW Hsh.out
            rw [hh] at h
            exact ext_of h
          have HH := Lib.hid hH
          clear hD hH hh h2
          refine wp_region_tail_ext 10 (by kernel_rfl) (by kernel_rfl) ?_
          simp only [List.take_succ_cons, List.take_zero, List.drop_succ_cons, List.drop_zero]
          repeat (go_big_quiet_step ((go_at_call 67; exact HH.out _)))
          refine wpQuiet_nil ?_
          rintro w5 ⟨z, rfl⟩
          have hz := plus_below w4 z
          have HL5 := Lib.hid (HL4.out.below hz HL4.out.lt)
          have HR5 := Lib.hid (HR4.out.below hz HR4.out.lt)
          have HB5 := Lib.hid (HB4.out.below hz HB4.out.lt)
          have t5 := on1 t4 hz
          clear hp
          obtain ⟨b0, b1⟩ := HB5.out.duo.1
          obtain ⟨⟨o0, o1⟩, o2, o3⟩ := HR5.out.duo
          have dq : (plus w4 z).cell? ⟨w1.heap.size, 0, none⟩ = some (.int .i64 p) ∧ (plus w4 z).cell? ⟨w1.heap.size, 1, none⟩ = some (.int .i64 x) := ⟨b0, b1⟩
          have ndr : ∀ (W : World) (a : Addr), W.drew.cell? a = W.cell? a := fun _ _ => rfl
          have nf1 := fun (W : World) (i j : Nat) (u : Value) => World.cell?_setCell_far W ⟨w.heap.size + 1 + 1, i, none⟩ ⟨w1.heap.size, j, none⟩ u (by simp; omega)
          have f7 : IntKind.i64.wrap ((a11 : Int) + x) = (a11 : Int) + x := by rw [IntKind.wrap_i64]; have := Ha'.out; omega
          go_wp2_with fail
          go_region_held3 (fun w' => w'.cell? ⟨w1.heap.size, 0, none⟩ = some (.int .i64 p) ∧ w'.cell? ⟨w1.heap.size, 1, none⟩ = some (.int .i64 x)) (first | with_reducible exact dq | (simp only [ndr]; with_reducible exact dq) | (simp only [nf1]; with_reducible exact dq) | (simp only [ndr, nf1]; with_reducible exact dq)) (fail)
          go_wp2_with fail
          have FR : Blk _ (w.heap.size + 1 + 1) 80 #[.int .i64 p, .int .i64 x] := HR5.out.set2 (.int .i64 p) (.int .i64 x)
          obtain ⟨⟨v0, v1⟩, -⟩ := FR.duo
          have TF := (t5.setCell (p := ⟨w.heap.size + 1 + 1, 0, none⟩) (by simp; omega) (.int .i64 p)).setCell (p := ⟨w.heap.size + 1 + 1, 1, none⟩) (by simp; omega) (.int .i64 x)
          refine bodyPost_ret (v := .tuple #[.int .u64 d, .int .i64 ((a11 : Int) + x), .agg #[.int .i64 p, .int .i64 x], .int .u16 30]) (by simp [results, Tryd.results64, go_sem, v0, v1]) rfl ⟨⟨d, (a11 : Int) + x, p, x, 30, rfl, by rw [HD.out], fun h => by cases h⟩, TF.drew⟩
        · have hd0 : d ≠ 0 := fun e => by
            rw [e] at hh
            unfold holdsX at hh
            simp at hh
          have hH : ∀ z : More, Calls Tryd.prog 67 #[.agg #[.int .i64 L, .int .i64 X], .int .u64 d] (plus w4 z) fun e w'' => e = .returned (.bool false) ∧ ∃ x', w'' = plus w4 x' := fun z => by
            have h := holds_any L X d (plus w4 z) hLW Hsh.out
            rw [hh] at h
            exact ext_of h
          have HH := Lib.hid hH
          have hN := fun z : More => ext_of (narrow_any d (plus w4 z) hd0 Hsh.out (tabGo HT4.out (plus_below _ _)))
          have Hh2 := Lib.hid h2
          clear hH hh h2 hd0
          rcases hc with ⟨hne, hD⟩ | ⟨⟨e1, e2⟩, hD⟩
          · have HD := Lib.hid hD
            obtain ⟨n3, hn3⟩ : ∃ n3, n3 = leadX d := ⟨_, rfl⟩
            obtain ⟨n4, hn4⟩ : ∃ n4, n4 = widX d := ⟨_, rfl⟩
            rw [← hn3, ← hn4] at hN hne
            have HN := Lib.hid hN
            clear hN hD hn3 hn4
            have hx : (((n3 : Int) == (p : Int)) = true ∧ ((n4 : Int) == (x : Int)) = false) ∨ ((n3 : Int) == (p : Int)) = false := by
              by_cases h3 : n3 = p
              · exact Or.inl ⟨by rw [h3]; simp, beq_eq_false_iff_ne.2 (fun e => hne ⟨h3, by omega⟩)⟩
              · exact Or.inr (beq_eq_false_iff_ne.2 (by omega))
            clear hne
            rcases hx with ⟨m1, m2⟩ | m1
            all_goals
              refine wp_region_tail_ext 10 (by kernel_rfl) (by kernel_rfl) ?_
              simp only [List.take_succ_cons, List.take_zero, List.drop_succ_cons, List.drop_zero]
              repeat (go_big_quiet_step ((first | (go_at_call 67; exact HH.out _) | (go_at_call 68; exact HN.out _))))
              refine wpQuiet_nil ?_
              rintro w5 ⟨z, rfl⟩
              have hz := plus_below w4 z
              have HL5 := Lib.hid (HL4.out.below hz HL4.out.lt)
              have HR5 := Lib.hid (HR4.out.below hz HR4.out.lt)
              have HB5 := Lib.hid (HB4.out.below hz HB4.out.lt)
              have t5 := on1 t4 hz
              clear hp
              obtain ⟨b0, b1⟩ := HB5.out.duo.1
              obtain ⟨⟨o0, o1⟩, o2, o3⟩ := HR5.out.duo
              have dq : (plus w4 z).cell? ⟨w1.heap.size, 0, none⟩ = some (.int .i64 p) ∧ (plus w4 z).cell? ⟨w1.heap.size, 1, none⟩ = some (.int .i64 x) := ⟨b0, b1⟩
              have ndr : ∀ (W : World) (a : Addr), W.drew.cell? a = W.cell? a := fun _ _ => rfl
              have nf1 := fun (W : World) (i j : Nat) (u : Value) => World.cell?_setCell_far W ⟨w.heap.size + 1 + 1, i, none⟩ ⟨w1.heap.size, j, none⟩ u (by simp; omega)
              have f7 : IntKind.i64.wrap ((a11 : Int) + x) = (a11 : Int) + x := by rw [IntKind.wrap_i64]; have := Ha'.out; omega
              go_wp2_with fail
              go_region_held3 (fun w' => w'.cell? ⟨w1.heap.size, 0, none⟩ = some (.int .i64 p) ∧ w'.cell? ⟨w1.heap.size, 1, none⟩ = some (.int .i64 x)) (first | with_reducible exact dq | (simp only [ndr]; with_reducible exact dq) | (simp only [nf1]; with_reducible exact dq) | (simp only [ndr, nf1]; with_reducible exact dq)) (fail)
              go_wp2_with fail
              have FR : Blk _ (w.heap.size + 1 + 1) 80 #[.int .i64 p, .int .i64 x] := HR5.out.set2 (.int .i64 p) (.int .i64 x)
              obtain ⟨⟨v0, v1⟩, -⟩ := FR.duo
              have TF := (t5.setCell (p := ⟨w.heap.size + 1 + 1, 0, none⟩) (by simp; omega) (.int .i64 p)).setCell (p := ⟨w.heap.size + 1 + 1, 1, none⟩) (by simp; omega) (.int .i64 x)
              refine bodyPost_ret (v := .tuple #[.int .u64 d, .int .i64 ((a11 : Int) + x), .agg #[.int .i64 p, .int .i64 x], .int .u16 30]) (by simp [results, Tryd.results64, go_sem, v0, v1]) rfl ⟨⟨d, (a11 : Int) + x, p, x, 30, rfl, by rw [HD.out], fun h => by cases h⟩, TF.drew⟩
          · rw [e1, e2] at hN
            have HN := Lib.hid hN
            have HD := Lib.hid hD
            clear hD e1 e2 hN
            refine wp_region_tail_ext 10 (by kernel_rfl) (by kernel_rfl) ?_
            simp only [List.take_succ_cons, List.take_zero, List.drop_succ_cons, List.drop_zero]
            repeat (go_big_quiet_step ((first | (go_at_call 67; exact HH.out _) | (go_at_call 68; exact HN.out _))))
            refine wpQuiet_nil ?_
            rintro w5 ⟨z, rfl⟩
            have hz := plus_below w4 z
            have HL5 := Lib.hid (HL4.out.below hz HL4.out.lt)
            have HR5 := Lib.hid (HR4.out.below hz HR4.out.lt)
            have HB5 := Lib.hid (HB4.out.below hz HB4.out.lt)
            have t5 := on1 t4 hz
            clear hp
            obtain ⟨b0, b1⟩ := HB5.out.duo.1
            obtain ⟨⟨o0, o1⟩, o2, o3⟩ := HR5.out.duo
            have dq : (plus w4 z).cell? ⟨w1.heap.size, 0, none⟩ = some (.int .i64 p) ∧ (plus w4 z).cell? ⟨w1.heap.size, 1, none⟩ = some (.int .i64 x) := ⟨b0, b1⟩
            have ndr : ∀ (W : World) (a : Addr), W.drew.cell? a = W.cell? a := fun _ _ => rfl
            have nf1 := fun (W : World) (i j : Nat) (u : Value) => World.cell?_setCell_far W ⟨w.heap.size + 1 + 1, i, none⟩ ⟨w1.heap.size, j, none⟩ u (by simp; omega)
            have f7 : IntKind.i64.wrap ((a11 : Int) + x) = (a11 : Int) + x := by rw [IntKind.wrap_i64]; have := Ha'.out; omega
            go_wp2_with fail
            go_region_held3 (fun w' => w'.cell? ⟨w1.heap.size, 0, none⟩ = some (.int .i64 p) ∧ w'.cell? ⟨w1.heap.size, 1, none⟩ = some (.int .i64 x)) (first | with_reducible exact dq | (simp only [ndr]; with_reducible exact dq) | (simp only [nf1]; with_reducible exact dq) | (simp only [ndr, nf1]; with_reducible exact dq)) (fail)
            go_wp2_with fail
            have FR : Blk _ (w.heap.size + 1 + 1) 80 #[.int .i64 p, .int .i64 x] := HR5.out.set2 (.int .i64 p) (.int .i64 x)
            obtain ⟨⟨v0, v1⟩, -⟩ := FR.duo
            have TF := (t5.setCell (p := ⟨w.heap.size + 1 + 1, 0, none⟩) (by simp; omega) (.int .i64 p)).setCell (p := ⟨w.heap.size + 1 + 1, 1, none⟩) (by simp; omega) (.int .i64 x)
            refine bodyPost_ret (v := .tuple #[.int .u64 d, .int .i64 ((a11 : Int) + x), .agg #[.int .i64 p, .int .i64 x], .int .u16 n2]) (by simp [results, Tryd.results64, go_sem, v0, v1]) rfl ⟨⟨d, (a11 : Int) + x, p, x, n2, rfl, by rw [HD.out]; exact Hh2.out, fun _ => by rw [HD.out]; exact ⟨rfl, by have := Ha'.out; simp only; omega, rfl, rfl⟩⟩, TF.drew⟩

end Go.Proofs.YtgnppnjhecfjeaaDoor

/- Layer 3's decoding step of the program. -/
namespace Go.Proofs.YtgnppnjhecfjeaaDoor
open Go.RowKit

/-- decoding at any place -/
def decI (s : XV) (l : List UInt8) (m : Nat) (at_ : Int) : Nat × Nat × Nat × Nat × Nat := if at_ < 0 ∨ (m : Int) < at_ then (0, 0, 0, 0, 10) else decD s ((bitl l m).drop at_.toNat)

/-- what a step of the decoding answers, wherever -/
def DecOut2 (D : Nat × Nat × Nat × Nat × Nat) (a : Int) (e : Ending) : Prop :=
  ∃ (d : Nat) (nx : Int) (bl bw c : Nat), e = .returned (.tuple #[.int .u64 d, .int .i64 nx, .agg #[.int .i64 bl, .int .i64 bw], .int .u16 c]) ∧ c = D.2.2.2.2 ∧
    (c = 0 → d = D.1 ∧ nx = a + (D.2.1 : Int) ∧ bl = D.2.2.1 ∧ bw = D.2.2.2.1)

theorem dec_facts (s : XV) {l : List UInt8} {m : Nat} {at_ : Int} (hs : soundB l (m : Int) = true) :
    (s.has = false ∧ ∃ g1 g2 : Nat, getSpec l (m : Int) at_ 64 = (g1, g2) ∧ ((g2 = 10 ∧ (decI s l m at_).2.2.2.2 = 10) ∨ (g2 = 0 ∧ 0 ≤ at_ ∧ at_ + 64 ≤ m ∧ decI s l m at_ = (g1, 64, 0, 0, 0)))) ∨
    (s.has = true ∧ ∃ g1 g2 : Nat, getSpec l (m : Int) at_ 1 = (g1, g2) ∧
      ((g2 = 10 ∧ (decI s l m at_).2.2.2.2 = 10) ∨ (g2 = 0 ∧ g1 = 0 ∧ 0 ≤ at_ ∧ at_ + 1 ≤ m ∧ decI s l m at_ = (0, 1, s.lead, s.width, 0)) ∨
       (g2 = 0 ∧ g1 = 1 ∧ ∃ a : Nat, at_ = a ∧ a + 1 ≤ m ∧ ∃ k1 k2 : Nat, getSpec l (m : Int) ((a + 1 : Nat) : Int) 1 = (k1, k2) ∧
          ((k2 = 10 ∧ (decI s l m at_).2.2.2.2 = 10) ∨
           (k2 = 0 ∧ k1 = 0 ∧ a + 2 ≤ m ∧ decI s l m at_ = ((oldD s.lead s.width ((bitl l m).drop (a + 2))).1, 2 + (oldD s.lead s.width ((bitl l m).drop (a + 2))).2.1, (oldD s.lead s.width ((bitl l m).drop (a + 2))).2.2)) ∨
           (k2 = 0 ∧ k1 = 1 ∧ a + 2 ≤ m ∧ decI s l m at_ = ((newD s.lead s.width ((bitl l m).drop (a + 2))).1, 2 + (newD s.lead s.width ((bitl l m).drop (a + 2))).2.1, (newD s.lead s.width ((bitl l m).drop (a + 2))).2.2)))))) := by
  by_cases ho : at_ < 0 ∨ (m : Int) < at_
  · have hD : decI s l m at_ = (0, 0, 0, 0, 10) := if_pos ho
    cases hh : s.has
    · exact Or.inl ⟨rfl, 0, 10, get_out hs ho (by omega), Or.inl ⟨rfl, by rw [hD]⟩⟩
    · exact Or.inr ⟨rfl, 0, 10, get_out hs ho (by omega), Or.inl ⟨rfl, by rw [hD]⟩⟩
  · obtain ⟨a, rfl⟩ : ∃ a : Nat, at_ = a := ⟨at_.toNat, by omega⟩
    have ham : a ≤ m := by omega
    have hD : decI s l m (a : Int) = decD s ((bitl l m).drop a) := by
      unfold decI
      rw [if_neg ho, Int.toNat_natCast]
    rw [hD]
    have hlen : ((bitl l m).drop a).length = m - a := by rw [List.length_drop, bitl_length]
    cases hh : s.has
    · refine Or.inl ⟨rfl, ?_⟩
      have h0 := get_front (d := 64) hs ham (by omega)
      rw [show ((64 : Nat) : Int) = 64 from rfl] at h0
      rw [h0]
      unfold decD
      rw [if_pos hh]
      by_cases h1 : ((bitl l m).drop a).length < 64
      · rw [if_pos h1, if_pos h1]
        exact ⟨0, 10, rfl, Or.inl ⟨rfl, rfl⟩⟩
      · rw [if_neg h1, if_neg h1]
        exact ⟨_, 0, rfl, Or.inr ⟨rfl, by omega, by omega, rfl⟩⟩
    · refine Or.inr ⟨rfl, ?_⟩
      have hne : ¬ s.has = false := by rw [hh]; decide
      rcases get_bit hs ham with ⟨hr, hma, hg⟩ | ⟨b, r, hr, hma, hr1, hg⟩
      · rw [hg, hr]
        exact ⟨0, 10, rfl, Or.inl ⟨rfl, by unfold decD; rw [if_neg hne]⟩⟩
      · rw [hg, hr]
        cases b
        · exact ⟨0, 0, rfl, Or.inr (Or.inl ⟨rfl, rfl, by omega, by omega, by unfold decD; rw [if_neg hne]⟩)⟩
        · refine ⟨1, 0, rfl, Or.inr (Or.inr ⟨rfl, rfl, a, rfl, hma, ?_⟩)⟩
          rcases get_bit (a := a + 1) hs hma with ⟨hr2, hma2, hg2⟩ | ⟨b2, r2, hr2, hma2, hr3, hg2⟩
          · rw [hg2]
            rw [hr1] at hr2
            rw [hr2]
            exact ⟨0, 10, rfl, Or.inl ⟨rfl, by unfold decD; rw [if_neg hne]⟩⟩
          · rw [hg2]
            rw [hr1] at hr2
            rw [hr2]
            rw [show a + 2 = a + 1 + 1 from rfl, hr3]
            cases b2
            · exact ⟨0, 0, rfl, Or.inr (Or.inl ⟨rfl, rfl, hma2, by unfold decD; rw [if_neg hne]⟩)⟩
            · exact ⟨1, 0, rfl, Or.inr (Or.inr ⟨rfl, rfl, hma2, by unfold decD; rw [if_neg hne]⟩)⟩

set_option maxRecDepth 100000 in
set_option maxHeartbeats 1000000 in
theorem decode_any (A : Option Addr) (c : Nat) (l : List UInt8) (m : Nat) (at_ : Int) (h : Bool) (p L X : Nat) (w : World) (hb : Bs w A l) (hs : soundB l (m : Int) = true) (hl : l.length ≤ 100000) (ha : -9223372036854775808 ≤ at_ ∧ at_ ≤ 9223372036854775807) (hm : m ≤ 800000) (hx : soundX ⟨h, p, L, X⟩ = true) (hT : Tab w) :
    Calls Tryd.prog 38 #[.agg #[.slice A l.length c, .int .i64 m], .int .i64 at_, .agg #[.bool h, .int .u64 p, .int .u8 L, .int .u8 X]] w fun e w' => DecOut2 (decI ⟨h, p, L, X⟩ l m at_) at_ e ∧ Below w.heap.size w w' := by
  have hmx : Tryd.prog.follows .mixedOrders = true := by kernel_rfl
  have hf := dec_facts ⟨h, p, L, X⟩ (at_ := at_) hs
  have hLX : L + X ≤ 64 := by
    unfold soundX at hx
    cases h <;> simp at hx <;> omega
  obtain ⟨D, hD⟩ : ∃ D, D = decI ⟨h, p, L, X⟩ l m at_ := ⟨_, rfl⟩
  rw [← hD] at hf ⊢
  clear hD hx
  obtain ⟨d0, d1, d2, t0, z0⟩ := three_at w #[.slice A l.length c, .int .i64 m] #[.bool h, .int .u64 p, .int .u8 L, .int .u8 X] #[.int .i64 0, .int .i64 0] 24 27 80
  obtain ⟨aw, haw⟩ : ∃ aw, aw = IntKind.i64.wrap (at_ + 64) := ⟨_, rfl⟩
  obtain ⟨a1, ha1⟩ : ∃ aw, aw = IntKind.i64.wrap (at_ + 1) := ⟨_, rfl⟩
  have HAW := Lib.hid haw
  have HA1 := Lib.hid ha1
  have HT := Lib.hid (tabGo hT t0)
  rcases hf with ⟨hh, g1, g2, hG, hc⟩ | ⟨hh, g1, g2, hG, hc⟩
  · subst hh
    go_enter Tryd.func38, Tryd.ntmps38
    go_wp2_with fail
    generalize (((w.alloc (.cells #[.slice A l.length c, .int .i64 m] 24)).alloc (.cells #[.bool false, .int .u64 p, .int .u8 L, .int .u8 X] 27)).alloc (.cells #[.int .i64 0, .int .i64 0] 80)) = W0 at *
    have hb0 := hb.below t0
    have HD0 := Lib.hid d0
    have HD1 := Lib.hid d1
    have HD2 := Lib.hid d2
    have Ht0 := Lib.hid t0
    have HB0 := Lib.hid hb0
    have haw2 : IntKind.i64.wrap (at_ + 64) = aw := haw.symm
    have ha12 : IntKind.i64.wrap (at_ + 1) = a1 := ha1.symm
    clear hT haw ha1 hb
    have hg := get_any A c l m at_ 64 W0 hb0 (by omega) (by omega) (by omega) (by omega)
    rw [hG] at hg
    have HG := Lib.hid hg
    have HC := Lib.hid hc
    clear hg hG hc hb0
    obtain ⟨⟨q0, q1, q2, q3⟩, -⟩ := HD1.out.quad
    obtain ⟨⟨u0, u1⟩, -⟩ := HD0.out.duo
    clear d0 d1 d2 t0
    go_wp2_with fail
    refine HG.out.mono ?_
    rintro e w1 ⟨rfl, b1⟩
    have R1 := Lib.hid (HD2.out.below b1 HD2.out.lt)
    obtain ⟨⟨r0, r1⟩, r2, r3⟩ := R1.out.duo
    have t1 := on1 Ht0.out b1
    have z1 := R1.out.lt
    clear b1 HG
    go_wp2_with fail
    have FR : Blk _ (w.heap.size + 1 + 1) 80 #[.int .i64 0, .int .i64 0] := R1.out.set2 (.int .i64 0) (.int .i64 0)
    obtain ⟨⟨v0, v1⟩, -⟩ := FR.duo
    have TF := (t1.setCell (p := ⟨w.heap.size + 1 + 1, 0, none⟩) (by simp; omega) (.int .i64 0)).setCell (p := ⟨w.heap.size + 1 + 1, 1, none⟩) (by simp; omega) (.int .i64 0)
    refine bodyPost_ret (v := .tuple #[.int .u64 g1, .int .i64 aw, .agg #[.int .i64 0, .int .i64 0], .int .u16 g2]) (by simp [results, Tryd.results38, go_sem, v0, v1]) rfl ⟨⟨g1, aw, 0, 0, g2, rfl, ?_, ?_⟩, TF⟩
    · rcases HC.out with ⟨h1, h2⟩ | ⟨h1, h2, h3, h4⟩
      · rw [h1, h2]
      · rw [h1, h4]
    · rcases HC.out with ⟨h1, h2⟩ | ⟨h1, h2, h3, h4⟩
      · intro h; omega
      · intro _
        rw [h4]
        refine ⟨rfl, ?_, rfl, rfl⟩
        rw [HAW.out, IntKind.wrap_i64]
        simp only
        omega
  · subst hh
    go_enter Tryd.func38, Tryd.ntmps38
    go_wp2_with fail
    generalize (((w.alloc (.cells #[.slice A l.length c, .int .i64 m] 24)).alloc (.cells #[.bool true, .int .u64 p, .int .u8 L, .int .u8 X] 27)).alloc (.cells #[.int .i64 0, .int .i64 0] 80)) = W0 at *
    have hb0 := hb.below t0
    have HD0 := Lib.hid d0
    have HD1 := Lib.hid d1
    have HD2 := Lib.hid d2
    have Ht0 := Lib.hid t0
    have HB0 := Lib.hid hb0
    have haw2 : IntKind.i64.wrap (at_ + 64) = aw := haw.symm
    have ha12 : IntKind.i64.wrap (at_ + 1) = a1 := ha1.symm
    clear hT haw ha1 hb
    have hg := get_any A c l m at_ 1 W0 hb0 (by omega) (by omega) (by omega) (by omega)
    rw [hG] at hg
    have HG := Lib.hid hg
    have HC := Lib.hid hc
    clear hg hG hc hb0
    obtain ⟨⟨q0, q1, q2, q3⟩, -⟩ := HD1.out.quad
    obtain ⟨⟨u0, u1⟩, -⟩ := HD0.out.duo
    clear d0 d1 d2 t0
    go_wp2_with fail
    refine HG.out.mono ?_
    rintro e w1 ⟨rfl, b1⟩
    have E1 := Lib.hid (HD0.out.below b1 HD0.out.lt)
    have S1 := Lib.hid (HD1.out.below b1 HD1.out.lt)
    have R1 := Lib.hid (HD2.out.below b1 HD2.out.lt)
    have HT1 := Lib.hid (tabGo HT.out b1)
    have hb1 := Lib.hid (HB0.out.below b1)
    have t1 := on1 Ht0.out b1
    have z1 := R1.out.lt
    clear b1 HG q0 q1 q2 q3 u0 u1 HD0 HD1 HD2 HT HB0
    obtain ⟨⟨q0, q1, q2, q3⟩, -⟩ := S1.out.quad
    obtain ⟨⟨u0, u1⟩, -⟩ := E1.out.duo
    obtain ⟨⟨r0, r1⟩, r2, r3⟩ := R1.out.duo
    have hcc : ((((g2 : Int) == 0) = false ∨ (g2 = 0 ∧ g1 = 0)) ∧ g2 = D.2.2.2.2 ∧ (g2 = 0 → D = (0, 1, L, X, 0) ∧ a1 = at_ + 1)) ∨
       (g2 = 0 ∧ g1 = 1 ∧ ∃ a : Nat, at_ = a ∧ a + 1 ≤ m ∧ ∃ k1 k2 : Nat, getSpec l (m : Int) ((a + 1 : Nat) : Int) 1 = (k1, k2) ∧
          ((k2 = 10 ∧ D.2.2.2.2 = 10) ∨
           (k2 = 0 ∧ k1 = 0 ∧ a + 2 ≤ m ∧ D = ((oldD L X ((bitl l m).drop (a + 2))).1, 2 + (oldD L X ((bitl l m).drop (a + 2))).2.1, (oldD L X ((bitl l m).drop (a + 2))).2.2)) ∨
           (k2 = 0 ∧ k1 = 1 ∧ a + 2 ≤ m ∧ D = ((newD L X ((bitl l m).drop (a + 2))).1, 2 + (newD L X ((bitl l m).drop (a + 2))).2.1, (newD L X ((bitl l m).drop (a + 2))).2.2)))) := by
      rcases HC.out with ⟨h1, h2⟩ | ⟨h1, h2, h3, h4, h5⟩ | h
      · exact Or.inl ⟨Or.inl (beq_eq_false_iff_ne.2 (by omega)), by rw [h1, h2], fun h => by omega⟩
      · refine Or.inl ⟨Or.inr ⟨h1, h2⟩, by rw [h1, h5], fun _ => ⟨h5, ?_⟩⟩
        rw [HA1.out, IntKind.wrap_i64]
        omega
      · exact Or.inr h
    clear HC
    rcases hcc with ⟨hk, hc2, hc3⟩ | ⟨rfl, rfl, a, rfl, ham, k1, k2, hG, hc⟩
    · have HK2 := Lib.hid hc2
      have HK3 := Lib.hid hc3
      clear hc2 hc3
      rcases hk with hk | ⟨rfl, rfl⟩
      · skip
        go_wp2_with fail
        refine (bandOf_any true p L X w1 (by omega) (by omega)).mono ?_
        rintro e w2 ⟨rfl, b2⟩
        have R2 := Lib.hid (R1.out.below b2 R1.out.lt)
        have t2 := on1 t1 b2
        have z2 := R2.out.lt
        clear r0 r1 r2 r3 b2
        obtain ⟨⟨r0, r1⟩, r2, r3⟩ := R2.out.duo
        go_wp2_with fail
        have FR : Blk _ (w.heap.size + 1 + 1) 80 #[.int .i64 L, .int .i64 X] := R2.out.set2 (.int .i64 L) (.int .i64 X)
        obtain ⟨⟨v0, v1⟩, -⟩ := FR.duo
        have TF := (t2.setCell (p := ⟨w.heap.size + 1 + 1, 0, none⟩) (by simp; omega) (.int .i64 L)).setCell (p := ⟨w.heap.size + 1 + 1, 1, none⟩) (by simp; omega) (.int .i64 X)
        refine bodyPost_ret (v := .tuple #[.int .u64 0, .int .i64 a1, .agg #[.int .i64 L, .int .i64 X], .int .u16 g2]) (by simp [results, Tryd.results38, go_sem, v0, v1]) rfl ⟨⟨0, a1, L, X, g2, rfl, HK2.out, ?_⟩, TF⟩
        intro h
        obtain ⟨h1, h2⟩ := HK3.out h
        rw [h1, h2]
        exact ⟨rfl, rfl, rfl, rfl⟩
      · skip
        go_wp2_with fail
        refine (bandOf_any true p L X w1 (by omega) (by omega)).mono ?_
        rintro e w2 ⟨rfl, b2⟩
        have R2 := Lib.hid (R1.out.below b2 R1.out.lt)
        have t2 := on1 t1 b2
        have z2 := R2.out.lt
        clear r0 r1 r2 r3 b2
        obtain ⟨⟨r0, r1⟩, r2, r3⟩ := R2.out.duo
        go_wp2_with fail
        have FR : Blk _ (w.heap.size + 1 + 1) 80 #[.int .i64 L, .int .i64 X] := R2.out.set2 (.int .i64 L) (.int .i64 X)
        obtain ⟨⟨v0, v1⟩, -⟩ := FR.duo
        have TF := (t2.setCell (p := ⟨w.heap.size + 1 + 1, 0, none⟩) (by simp; omega) (.int .i64 L)).setCell (p := ⟨w.heap.size + 1 + 1, 1, none⟩) (by simp; omega) (.int .i64 X)
        refine bodyPost_ret (v := .tuple #[.int .u64 0, .int .i64 a1, .agg #[.int .i64 L, .int .i64 X], .int .u16 0]) (by simp [results, Tryd.results38, go_sem, v0, v1]) rfl ⟨⟨0, a1, L, X, 0, rfl, HK2.out, ?_⟩, TF⟩
        intro h
        obtain ⟨h1, h2⟩ := HK3.out (by first | exact h | trivial)
        rw [h1, h2]
        exact ⟨rfl, rfl, rfl, rfl⟩
    · have hw1 : IntKind.i64.wrap ((a : Int) + 1) = ((a + 1 : Nat) : Int) := by rw [IntKind.wrap_i64]; omega
      have hw2 : IntKind.i64.wrap ((a : Int) + 2) = ((a + 2 : Nat) : Int) := by rw [IntKind.wrap_i64]; omega
      have hg := get_any A c l m ((a + 1 : Nat) : Int) 1 w1 hb1.out (by omega) (by omega) (by omega) (by omega)
      rw [hG] at hg
      have HG := Lib.hid hg
      have HC := Lib.hid hc
      clear hg hG hc
      obtain ⟨a1n, ha1n⟩ : ∃ a1n, a1n = a + 1 := ⟨_, rfl⟩
      obtain ⟨a2n, ha2n⟩ : ∃ a2n, a2n = a + 2 := ⟨_, rfl⟩
      rw [← ha1n] at hw1 HG
      rw [← ha2n] at hw2 HC
      have H2n := Lib.hid ha2n
      clear ha1n ha2n HA1 HAW haw2 ha12
      go_wp2_with fail
      refine HG.out.mono ?_
      rintro e w2 ⟨rfl, b2⟩
      have E2 := Lib.hid (E1.out.below b2 E1.out.lt)
      have S2 := Lib.hid (S1.out.below b2 S1.out.lt)
      have R2 := Lib.hid (R1.out.below b2 R1.out.lt)
      have HT2 := Lib.hid (tabGo HT1.out b2)
      have hb2 := Lib.hid (hb1.out.below b2)
      have t2 := on1 t1 b2
      have z2 := R2.out.lt
      clear b2 HG q0 q1 q2 q3 u0 u1 r0 r1 r2 r3 E1 S1 R1 HT1 hb1
      obtain ⟨⟨q0, q1, q2, q3⟩, -⟩ := S2.out.quad
      obtain ⟨⟨u0, u1⟩, -⟩ := E2.out.duo
      obtain ⟨⟨r0, r1⟩, r2, r3⟩ := R2.out.duo
      rcases HC.out with ⟨rfl, h2⟩ | ⟨rfl, rfl, ha2, hd⟩ | ⟨rfl, rfl, ha2, hd⟩
      · have H2 := Lib.hid h2
        clear h2 HC
        go_wp2_with fail
        have FR : Blk _ (w.heap.size + 1 + 1) 80 #[.int .i64 0, .int .i64 0] := R2.out.set2 (.int .i64 0) (.int .i64 0)
        obtain ⟨⟨v0, v1⟩, -⟩ := FR.duo
        have TF := (t2.setCell (p := ⟨w.heap.size + 1 + 1, 0, none⟩) (by simp; omega) (.int .i64 0)).setCell (p := ⟨w.heap.size + 1 + 1, 1, none⟩) (by simp; omega) (.int .i64 0)
        refine bodyPost_ret (v := .tuple #[.int .u64 0, .int .i64 0, .agg #[.int .i64 0, .int .i64 0], .int .u16 10]) (by simp [results, Tryd.results38, go_sem, v0, v1]) rfl ⟨⟨0, 0, 0, 0, 10, rfl, H2.out.symm, fun h => by cases h⟩, TF⟩
      · have H2 := Lib.hid hd
        have H3 := Lib.hid ha2
        clear hd ha2 HC
        have hq : ∀ x, ((plus w2 x).cell? ⟨w.heap.size, 0, none⟩ = some (.slice A l.length c) ∧ (plus w2 x).cell? ⟨w.heap.size, 1, none⟩ = some (.int .i64 m)) := fun x => box1 (plus_below w2 x) ⟨u0, u1⟩
        have hv : ∀ x, (plus w2 x).cell? ⟨w.heap.size + 1, 0, none⟩ = some (.bool true) ∧ (plus w2 x).cell? ⟨w.heap.size + 1, 1, none⟩ = some (.int .u64 p) ∧ (plus w2 x).cell? ⟨w.heap.size + 1, 2, none⟩ = some (.int .u8 L) ∧ (plus w2 x).cell? ⟨w.heap.size + 1, 3, none⟩ = some (.int .u8 X) := fun x =>
          ((S2.out.below (plus_below w2 x) S2.out.lt : Blk (plus w2 x) (w.heap.size + 1) 27 #[.bool true, .int .u64 p, .int .u8 L, .int .u8 X])).quad.1
        go_wp2_with fail
        refine wp_region_fresh_tail 10 [] [4, 5] (fun k V z => if k = 4 then V = .agg #[.int .i64 L, .int .i64 X] else ∃ (d : Nat) (nx : Int) (bl bw c : Nat), V = .tuple #[.int .u64 d, .int .i64 nx, .agg #[.int .i64 bl, .int .i64 bw], .int .u16 c] ∧ DecOut (oldD L X ((bitl l m).drop a2n)) a2n (.returned V)) hmx (by kernel_rfl) (by kernel_rfl) ?_
        simp only [List.take_succ_cons, List.take_zero, List.drop_succ_cons, List.drop_zero]
        iterate 4 (refine walkF_one none w2 rfl (by kernel_rfl) ?_; go_big_quiet_step (fail); refine wpQuiet_nil ?_)
        refine walkF_make none w2 rfl rfl rfl (by kernel_rfl) (fun x => ?_) ?_
        · refine grow_call ?_ ((bandOf_any true p L X (plus w2 x) (by omega) (by omega)).mono ?_)
          · simp [execOp, go_sem]
          · rintro e w4 ⟨rfl, b4⟩
            exact ⟨_, rfl, b4, rfl⟩
        rintro V1 z1 rfl g1
        conv => arg 11; simp [Act.put]
        refine walkF_make none w2 rfl rfl rfl (by kernel_rfl) (fun x => ?_) ?_
        · refine grow_call ?_ ((decodeOld_any A c l m a2n L X (plus w2 x) (hb2.out.below (plus_below _ _)) hs hl (by have := H3.out; have := H2n.out; omega) hm hLX).mono ?_)
          · simp [execOp, go_sem]
          · rintro e w4 ⟨hO, b4⟩
            obtain ⟨d, nx, bl, bw, c, rfl, hh⟩ := hO
            exact ⟨_, rfl, b4, d, nx, bl, bw, c, rfl, d, nx, bl, bw, c, rfl, hh⟩
        rintro V2 z2 ⟨d, nx, bl, bw, c, rfl, hO⟩ g2
        have HO := Lib.hid hO
        clear hO
        conv => arg 11; simp [Act.put]
        iterate 4 (refine walkF_one none w2 rfl (by kernel_rfl) ?_; go_big_quiet_step (fail); refine wpQuiet_nil ?_)
        refine walkF_end ?_
        intro w' h0 hE
        have fR := R2.out.below h0 R2.out.lt
        obtain ⟨⟨r0, r1⟩, r2, r3⟩ := fR.duo
        have t3 := on1 t2 h0
        have z3 := fR.lt
        have FR : Blk _ (w.heap.size + 1 + 1) 80 #[.int .i64 bl, .int .i64 bw] := fR.set2 (.int .i64 bl) (.int .i64 bw)
        obtain ⟨⟨v0, v1⟩, -⟩ := FR.duo
        have TF := (t3.setCell (p := ⟨w.heap.size + 1 + 1, 0, none⟩) (by simp; omega) (.int .i64 bl)).setCell (p := ⟨w.heap.size + 1 + 1, 1, none⟩) (by simp; omega) (.int .i64 bw)
        clear hE
        go_wp2_with fail
        refine bodyPost_ret (v := .tuple #[.int .u64 d, .int .i64 nx, .agg #[.int .i64 bl, .int .i64 bw], .int .u16 c]) (by simp [results, Tryd.results38, go_sem, v0, v1]) rfl ⟨⟨d, nx, bl, bw, c, rfl, ?_⟩, TF⟩
        obtain ⟨d', nx', bl', bw', c', he, hc, hh⟩ := HO.out
        simp only [Ending.returned.injEq, Value.tuple.injEq, Array.mk.injEq, List.cons.injEq, Value.int.injEq, Value.agg.injEq, true_and, and_true, Int.ofNat_inj, Int.natCast_inj] at he
        obtain ⟨rfl, rfl, ⟨rfl, rfl⟩, rfl⟩ := he
        rw [H2.out]
        refine ⟨hc, fun h => ?_⟩
        obtain ⟨e1, e2, e3, e4⟩ := hh h
        exact ⟨e1, by rw [e2, H2n.out]; simp; omega, e3, e4⟩
      · have H2 := Lib.hid hd
        have H3 := Lib.hid ha2
        clear hd ha2 HC
        have hq : ∀ x, ((plus w2 x).cell? ⟨w.heap.size, 0, none⟩ = some (.slice A l.length c) ∧ (plus w2 x).cell? ⟨w.heap.size, 1, none⟩ = some (.int .i64 m)) := fun x => box1 (plus_below w2 x) ⟨u0, u1⟩
        have hv : ∀ x, (plus w2 x).cell? ⟨w.heap.size + 1, 0, none⟩ = some (.bool true) ∧ (plus w2 x).cell? ⟨w.heap.size + 1, 1, none⟩ = some (.int .u64 p) ∧ (plus w2 x).cell? ⟨w.heap.size + 1, 2, none⟩ = some (.int .u8 L) ∧ (plus w2 x).cell? ⟨w.heap.size + 1, 3, none⟩ = some (.int .u8 X) := fun x =>
          ((S2.out.below (plus_below w2 x) S2.out.lt : Blk (plus w2 x) (w.heap.size + 1) 27 #[.bool true, .int .u64 p, .int .u8 L, .int .u8 X])).quad.1
        go_wp2_with fail
        refine wp_region_fresh_tail 10 [] [4, 5] (fun k V z => if k = 4 then V = .agg #[.int .i64 L, .int .i64 X] else ∃ (d : Nat) (nx : Int) (bl bw c : Nat), V = .tuple #[.int .u64 d, .int .i64 nx, .agg #[.int .i64 bl, .int .i64 bw], .int .u16 c] ∧ DecOut (newD L X ((bitl l m).drop a2n)) a2n (.returned V)) hmx (by kernel_rfl) (by kernel_rfl) ?_
        simp only [List.take_succ_cons, List.take_zero, List.drop_succ_cons, List.drop_zero]
        iterate 4 (refine walkF_one none w2 rfl (by kernel_rfl) ?_; go_big_quiet_step (fail); refine wpQuiet_nil ?_)
        refine walkF_make none w2 rfl rfl rfl (by kernel_rfl) (fun x => ?_) ?_
        · refine grow_call ?_ ((bandOf_any true p L X (plus w2 x) (by omega) (by omega)).mono ?_)
          · simp [execOp, go_sem]
          · rintro e w4 ⟨rfl, b4⟩
            exact ⟨_, rfl, b4, rfl⟩
        rintro V1 z1 rfl g1
        conv => arg 11; simp [Act.put]
        refine walkF_make none w2 rfl rfl rfl (by kernel_rfl) (fun x => ?_) ?_
        · refine grow_call ?_ ((decodeNew_any A c l m a2n L X (plus w2 x) (hb2.out.below (plus_below _ _)) hs hl (by have := H3.out; have := H2n.out; omega) hm hLX (tabGo HT2.out (plus_below _ _))).mono ?_)
          · simp [execOp, go_sem]
          · rintro e w4 ⟨hO, b4⟩
            obtain ⟨d, nx, bl, bw, c, rfl, hh⟩ := hO
            exact ⟨_, rfl, b4, d, nx, bl, bw, c, rfl, d, nx, bl, bw, c, rfl, hh⟩
        rintro V2 z2 ⟨d, nx, bl, bw, c, rfl, hO⟩ g2
        have HO := Lib.hid hO
        clear hO
        conv => arg 11; simp [Act.put]
        iterate 4 (refine walkF_one none w2 rfl (by kernel_rfl) ?_; go_big_quiet_step (fail); refine wpQuiet_nil ?_)
        refine walkF_end ?_
        intro w' h0 hE
        have fR := R2.out.below h0 R2.out.lt
        obtain ⟨⟨r0, r1⟩, r2, r3⟩ := fR.duo
        have t3 := on1 t2 h0
        have z3 := fR.lt
        have FR : Blk _ (w.heap.size + 1 + 1) 80 #[.int .i64 bl, .int .i64 bw] := fR.set2 (.int .i64 bl) (.int .i64 bw)
        obtain ⟨⟨v0, v1⟩, -⟩ := FR.duo
        have TF := (t3.setCell (p := ⟨w.heap.size + 1 + 1, 0, none⟩) (by simp; omega) (.int .i64 bl)).setCell (p := ⟨w.heap.size + 1 + 1, 1, none⟩) (by simp; omega) (.int .i64 bw)
        clear hE
        go_wp2_with fail
        refine bodyPost_ret (v := .tuple #[.int .u64 d, .int .i64 nx, .agg #[.int .i64 bl, .int .i64 bw], .int .u16 c]) (by simp [results, Tryd.results38, go_sem, v0, v1]) rfl ⟨⟨d, nx, bl, bw, c, rfl, ?_⟩, TF⟩
        obtain ⟨d', nx', bl', bw', c', he, hc, hh⟩ := HO.out
        simp only [Ending.returned.injEq, Value.tuple.injEq, Array.mk.injEq, List.cons.injEq, Value.int.injEq, Value.agg.injEq, true_and, and_true, Int.ofNat_inj, Int.natCast_inj] at he
        obtain ⟨rfl, rfl, ⟨rfl, rfl⟩, rfl⟩ := he
        rw [H2.out]
        refine ⟨hc, fun h => ?_⟩
        obtain ⟨e1, e2, e3, e4⟩ := hh h
        exact ⟨e1, by rw [e2, H2n.out]; simp; omega, e3, e4⟩

end Go.Proofs.YtgnppnjhecfjeaaDoor

/- Layer 3: the program's Get. -/
namespace Go.Proofs.YtgnppnjhecfjeaaDoor
open Go.RowKit

/-- the table lies there -/
def kT : Kp := kP (fun w => Tab w) fun _ _ h b => tabGo h b
theorem Ks.tab {w : World} {ks : List Kp} (h : Ks w ks) (i : Nat) (e : ks[i]? = some kT := by rfl) : Tab w := (h.get i e : Tab w)
theorem Ks.tab_ {w : World} {ks : List Kp} (h : Ks w ks) (b : Tab w) : Ks w (kT :: ks) := h.cons (k := kT) b

/-- what Get answers: the value, the place behind, what is known, the error -/
def getX (l : List UInt8) (n : Int) (s : XV) (at_ : Int) : Nat × Int × XV × Nat :=
  if soundB l n = false then (0, 0, xv0, 11) else if soundX s = false then (0, 0, xv0, 30)
  else if (decI s l n.toNat at_).2.2.2.2 = 0 then ((decI s l n.toNat at_).1 ^^^ s.prev, at_ + ((decI s l n.toNat at_).2.1 : Int), ⟨true, (decI s l n.toNat at_).1 ^^^ s.prev, (decI s l n.toNat at_).2.2.1, (decI s l n.toNat at_).2.2.2.1⟩, 0)
  else (0, 0, xv0, (decI s l n.toNat at_).2.2.2.2)

theorem getX_dec {l : List UInt8} {m a : Nat} {s : XV} (hb : soundB l (m : Int) = true) (hs : soundX s = true) (ha : a ≤ m) :
    getX l (m : Int) s (a : Int) = ((decX s ((bitl l m).drop a)).1, (if (decX s ((bitl l m).drop a)).2.2.2 = 0 then ((a + (decX s ((bitl l m).drop a)).2.1 : Nat) : Int) else 0), (decX s ((bitl l m).drop a)).2.2.1, (decX s ((bitl l m).drop a)).2.2.2) := by
  unfold getX
  rw [if_neg (by rw [hb]; decide), if_neg (by rw [hs]; decide), Int.toNat_natCast]
  have e : decI s l m (a : Int) = decD s ((bitl l m).drop a) := by
    unfold decI
    rw [if_neg (by omega), Int.toNat_natCast]
  rw [e, decX_D hs]
  unfold upD
  split
  · simp
  · rename_i h
    simp [h]

theorem getX_out {l : List UInt8} {m : Nat} {at_ : Int} {s : XV} (hb : soundB l (m : Int) = true) (hs : soundX s = true) (ha : at_ < 0 ∨ (m : Int) < at_) : getX l (m : Int) s at_ = (0, 0, xv0, 10) := by
  unfold getX
  rw [if_neg (by rw [hb]; decide), if_neg (by rw [hs]; decide), Int.toNat_natCast]
  have e : decI s l m at_ = (0, 0, 0, 0, 10) := if_pos ha
  rw [e]
  rfl

theorem decD_bound {s : XV} (hs : soundX s = true) (r : List Bool) : (decD s r).2.2.2.2 = 0 → (decD s r).1 < 18446744073709551616 ∧ (decD s r).2.2.1 < 256 ∧ (decD s r).2.2.2.1 < 256 := by
  have hlw : s.lead + s.width ≤ 64 := by
    unfold soundX at hs
    cases h : s.has <;> rw [h] at hs <;> simp at hs <;> omega
  have hO : ∀ r : List Bool, (oldD s.lead s.width r).2.2.2.2 = 0 → (oldD s.lead s.width r).1 < 18446744073709551616 ∧ (oldD s.lead s.width r).2.2.1 < 256 ∧ (oldD s.lead s.width r).2.2.2.1 < 256 := by
    intro r
    unfold oldD
    split
    · intro h; cases h
    · split
      · intro h; cases h
      · rename_i h1 _
        intro _
        have hl := numB_lt (r.take s.width)
        rw [List.length_take, Nat.min_eq_left (by omega)] at hl
        exact ⟨shl_lt hl hlw, by simp only; omega, by simp only; omega⟩
  have hN : ∀ r : List Bool, (newD s.lead s.width r).2.2.2.2 = 0 → (newD s.lead s.width r).1 < 18446744073709551616 ∧ (newD s.lead s.width r).2.2.1 < 256 ∧ (newD s.lead s.width r).2.2.2.1 < 256 := by
    intro r
    unfold newD
    split
    · intro h; cases h
    · split
      · intro h; cases h
      · split
        · intro h; cases h
        · split
          · intro h; cases h
          · rename_i h1 h2 h3 h4
            intro _
            have hl := numB_lt ((r.drop 11).take (numB ((r.drop 5).take 6) + 1))
            rw [List.length_take, List.length_drop, Nat.min_eq_left (by omega)] at hl
            exact ⟨shl_lt hl (by omega), by simp only; omega, by simp only; omega⟩
  unfold decD
  split
  · split
    · intro h; cases h
    · intro _
      have hl := numB_lt (r.take 64)
      rw [List.length_take, Nat.min_eq_left (by omega)] at hl
      exact ⟨hl, by simp, by simp⟩
  · split
    · intro h; cases h
    · intro _; exact ⟨by simp, by simp only; omega, by simp only; omega⟩
    · intro h; cases h
    · exact hO _
    · exact hN _

theorem decI_bound {s : XV} (hs : soundX s = true) (l : List UInt8) (m : Nat) (at_ : Int) : (decI s l m at_).2.2.2.2 = 0 → (decI s l m at_).1 < 18446744073709551616 ∧ (decI s l m at_).2.2.1 < 256 ∧ (decI s l m at_).2.2.2.1 < 256 := by
  unfold decI
  split
  · intro h; cases h
  · exact decD_bound hs _

set_option maxRecDepth 100000 in
set_option maxHeartbeats 1000000 in
theorem xget_any (A : Option Addr) (c : Nat) (l : List UInt8) (n at_ : Int) (h : Bool) (p L X : Nat) (w : World) (hb : Bs w A l) (hn : -9223372036854775808 ≤ n ∧ n ≤ 9223372036854775807) (hl : l.length ≤ 100000) (ha : -9223372036854775808 ≤ at_ ∧ at_ ≤ 9223372036854775807) (hp : p < 18446744073709551616) (hL : L < 256) (hX : X < 256) (hT : Tab w) :
    Calls Tryd.prog 16 #[.agg #[.slice A l.length c, .int .i64 n], .int .i64 at_, .agg #[.bool h, .int .u64 p, .int .u8 L, .int .u8 X]] w fun e w' => e = .returned (.tuple #[.int .u64 (getX l n ⟨h, p, L, X⟩ at_).1, .int .i64 (getX l n ⟨h, p, L, X⟩ at_).2.1, .agg #[.bool (getX l n ⟨h, p, L, X⟩ at_).2.2.1.has, .int .u64 (getX l n ⟨h, p, L, X⟩ at_).2.2.1.prev, .int .u8 (getX l n ⟨h, p, L, X⟩ at_).2.2.1.lead, .int .u8 (getX l n ⟨h, p, L, X⟩ at_).2.2.1.width], .int .u16 (getX l n ⟨h, p, L, X⟩ at_).2.2.2]) ∧ Below w.heap.size w w' := by
  have hlm : l.length ≤ maxLen := by unfold maxLen; omega
  have K := ((Ks.three w #[.slice A l.length c, .int .i64 n] #[.bool h, .int .u64 p, .int .u8 L, .int .u8 X] #[.bool false, .int .u64 0, .int .u8 0, .int .u8 0] 24 27 27)).bs_ (hb.below (Ks.three w _ _ _ _ _ _ |>.top 0)) |>.tab_ (tabGo hT (Ks.three w _ _ _ _ _ _ |>.top 0))
  go_enter Tryd.func16, Tryd.ntmps16
  go_wp2_with fail
  generalize (((w.alloc (.cells #[.slice A l.length c, .int .i64 n] 24)).alloc (.cells #[.bool h, .int .u64 p, .int .u8 L, .int .u8 X] 27)).alloc (.cells #[.bool false, .int .u64 0, .int .u8 0, .int .u8 0] 27)) = W0 at *
  have HK := Lib.hid K
  clear K hb hT
  refine (sound_any A c l n W0 (HK.out.bs 1) hn hlm).mono ?_
  rintro e w1 ⟨rfl, b1⟩
  replace HK := Lib.hid (HK.out.go b1)
  clear b1
  obtain ⟨⟨q0, q1, q2, q3⟩, g0, g1, g2, g3⟩ := (HK.out.blk 5).quad
  obtain ⟨⟨u0, u1, u2, u3⟩, -⟩ := (HK.out.blk 4).quad
  obtain ⟨⟨v0, v1⟩, -⟩ := (HK.out.blk 3).duo
  cases hs : soundB l n
  · have Hs := Lib.hid hs
    clear hs
    go_wp2_with fail
    have FR := (HK.out.blk 5).set4 (.bool false) (.int .u64 0) (.int .u8 0) (.int .u8 0)
    obtain ⟨⟨s0, s1, s2, s3⟩, -⟩ := FR.quad
    refine bodyPost_ret (v := .tuple #[.int .u64 0, .int .i64 0, .agg #[.bool false, .int .u64 0, .int .u8 0, .int .u8 0], .int .u16 11]) (by simp [results, Tryd.results16, go_sem, s0, s1, s2, s3]) rfl ⟨?_, below_set4 (HK.out.top 2) (by omega) _ _ _ _⟩
    unfold getX
    rw [if_pos Hs.out]
    rfl
  · obtain ⟨m, rfl, hm8, -⟩ := sound_nat hs
    have Hs := Lib.hid hs
    clear hs
    go_wp2_with fail
    refine (xsound_any h p L X _ hL hX).mono ?_
    rintro e w2 ⟨rfl, b2⟩
    replace HK := Lib.hid (HK.out.go b2)
    clear b2 q0 q1 q2 q3 g0 g1 g2 g3 u0 u1 u2 u3 v0 v1
    obtain ⟨⟨q0, q1, q2, q3⟩, g0, g1, g2, g3⟩ := (HK.out.blk 5).quad
    obtain ⟨⟨u0, u1, u2, u3⟩, -⟩ := (HK.out.blk 4).quad
    obtain ⟨⟨v0, v1⟩, -⟩ := (HK.out.blk 3).duo
    cases hx : soundX ⟨h, p, L, X⟩
    · have Hx := Lib.hid hx
      clear hx
      go_wp2_with fail
      have FR := (HK.out.blk 5).set4 (.bool false) (.int .u64 0) (.int .u8 0) (.int .u8 0)
      obtain ⟨⟨s0, s1, s2, s3⟩, -⟩ := FR.quad
      refine bodyPost_ret (v := .tuple #[.int .u64 0, .int .i64 0, .agg #[.bool false, .int .u64 0, .int .u8 0, .int .u8 0], .int .u16 30]) (by simp [results, Tryd.results16, go_sem, s0, s1, s2, s3]) rfl ⟨?_, below_set4 (HK.out.top 2) (by omega) _ _ _ _⟩
      unfold getX
      rw [if_neg (by rw [Hs.out]; decide), if_pos Hx.out]
      rfl
    · have Hx := Lib.hid hx
      have HDb := Lib.hid (decI_bound hx l m at_)
      clear hx
      have hd := decode_any A c l m at_ h p L X w2 (HK.out.bs 1) Hs.out hl ha (by omega) Hx.out (HK.out.tab 0)
      have HX : Hid (getX l m ⟨h, p, L, X⟩ at_ = if (decI ⟨h, p, L, X⟩ l m at_).2.2.2.2 = 0 then ((decI ⟨h, p, L, X⟩ l m at_).1 ^^^ p, at_ + ((decI ⟨h, p, L, X⟩ l m at_).2.1 : Int), ⟨true, (decI ⟨h, p, L, X⟩ l m at_).1 ^^^ p, (decI ⟨h, p, L, X⟩ l m at_).2.2.1, (decI ⟨h, p, L, X⟩ l m at_).2.2.2.1⟩, 0)
          else (0, 0, xv0, (decI ⟨h, p, L, X⟩ l m at_).2.2.2.2)) := Lib.hid (by
        unfold getX
        rw [if_neg (by rw [Hs.out]; decide), if_neg (by rw [Hx.out]; decide), Int.toNat_natCast])
      have HD := Lib.hid hd
      clear hd
      go_wp2_with fail
      refine HD.out.mono ?_
      rintro e w3 ⟨⟨d, nx, bl, bw, ec, rfl, hec, hok⟩, b3⟩
      replace HK := Lib.hid ((HK.out.go b3).box #[.int .i64 bl, .int .i64 bw] 80)
      have Hec := Lib.hid hec
      have Hok := Lib.hid hok
      have z3 := b3.size
      clear b3 q0 q1 q2 q3 g0 g1 g2 g3 u0 u1 u2 u3 v0 v1 HD hec hok
      obtain ⟨⟨q0, q1, q2, q3⟩, g0, g1, g2, g3⟩ := (HK.out.blk 6).quad
      obtain ⟨⟨u0, u1, u2, u3⟩, -⟩ := (HK.out.blk 5).quad
      obtain ⟨⟨y0, y1⟩, -⟩ := (HK.out.blk 0).duo
      by_cases h0 : ec = 0
      · subst h0
        obtain ⟨k1, k2, k3, k4⟩ := Hok.out rfl
        obtain ⟨j1, j2, j3⟩ := HDb.out Hec.out.symm
        rw [← k1] at j1
        rw [← k3] at j2
        rw [← k4] at j3
        have hx : bits .xor .u64 (d : Int) (p : Int) = ((d ^^^ p : Nat) : Int) := xor_int d p j1 hp
        obtain ⟨v, hv⟩ : ∃ v, v = d ^^^ p := ⟨_, rfl⟩
        rw [← hv] at hx
        have hA := after_any bl bw v
        have Hk := Lib.hid (And.intro k1 (And.intro k2 (And.intro k3 k4)))
        have Hv := Lib.hid hv
        clear k1 k2 k3 k4 hv
        go_wp2_with fail
        refine (hA _ j2 j3).mono ?_
        rintro e w4 ⟨rfl, b4⟩
        replace HK := Lib.hid (HK.out.go b4)
        clear b4 q0 q1 q2 q3 g0 g1 g2 g3 u0 u1 u2 u3 y0 y1
        obtain ⟨⟨q0, q1, q2, q3⟩, g0, g1, g2, g3⟩ := (HK.out.blk 6).quad
        go_wp2_with fail
        have FR := (HK.out.blk 6).set4 (.bool true) (.int .u64 v) (.int .u8 bl) (.int .u8 bw)
        obtain ⟨⟨s0, s1, s2, s3⟩, -⟩ := FR.quad
        refine bodyPost_ret (v := .tuple #[.int .u64 v, .int .i64 nx, .agg #[.bool true, .int .u64 v, .int .u8 bl, .int .u8 bw], .int .u16 0]) (by simp [results, Tryd.results16, go_sem, s0, s1, s2, s3]) rfl ⟨?_, below_set4 (HK.out.top 3) (by omega) _ _ _ _⟩
        obtain ⟨k1, k2, k3, k4⟩ := Hk.out
        rw [HX.out, if_pos Hec.out.symm, ← k1, ← k2, ← k3, ← k4, Hv.out]
        rfl
      · have h0' : ((ec : Int) == 0) = false := beq_eq_false_iff_ne.2 (by omega)
        go_wp2_with fail
        have FR := (HK.out.blk 6).set4 (.bool false) (.int .u64 0) (.int .u8 0) (.int .u8 0)
        obtain ⟨⟨s0, s1, s2, s3⟩, -⟩ := FR.quad
        refine bodyPost_ret (v := .tuple #[.int .u64 0, .int .i64 0, .agg #[.bool false, .int .u64 0, .int .u8 0, .int .u8 0], .int .u16 ec]) (by simp [results, Tryd.results16, go_sem, s0, s1, s2, s3]) rfl ⟨?_, below_set4 (HK.out.top 3) (by omega) _ _ _ _⟩
        rw [HX.out, if_neg (by rw [← Hec.out]; exact h0), Hec.out]
        rfl

end Go.Proofs.YtgnppnjhecfjeaaDoor

/- Layer 6: what is known may be; one more sample. -/
namespace Go.Proofs.YtgnppnjhecfjeaaDoor
open Go.RowKit
set_option maxRecDepth 100000

theorem Blk.sept {w : World} {g : Nat} {t : TypeId} {a b c d e f h : Value} (k : Blk w g t #[a, b, c, d, e, f, h]) :
    (w.cell? ⟨g, 0, none⟩ = some a ∧ w.cell? ⟨g, 1, none⟩ = some b ∧ w.cell? ⟨g, 2, none⟩ = some c ∧ w.cell? ⟨g, 3, none⟩ = some d ∧ w.cell? ⟨g, 4, none⟩ = some e ∧ w.cell? ⟨g, 5, none⟩ = some f ∧ w.cell? ⟨g, 6, none⟩ = some h) ∧
    (w.frozen? ⟨g, 0, none⟩ = false ∧ w.frozen? ⟨g, 1, none⟩ = false ∧ w.frozen? ⟨g, 2, none⟩ = false ∧ w.frozen? ⟨g, 3, none⟩ = false ∧ w.frozen? ⟨g, 4, none⟩ = false ∧ w.frozen? ⟨g, 5, none⟩ = false ∧ w.frozen? ⟨g, 6, none⟩ = false) :=
  ⟨⟨k.cell 0, k.cell 1, k.cell 2, k.cell 3, k.cell 4, k.cell 5, k.cell 6⟩, k.frozen 0, k.frozen 1, k.frozen 2, k.frozen 3, k.frozen 4, k.frozen 5, k.frozen 6⟩
/-- seven cells stored -/
def seven (w : World) (g : Nat) (a b c d e f h : Value) : World := ((((((w.setCell ⟨g, 0, none⟩ a).setCell ⟨g, 1, none⟩ b).setCell ⟨g, 2, none⟩ c).setCell ⟨g, 3, none⟩ d).setCell ⟨g, 4, none⟩ e).setCell ⟨g, 5, none⟩ f).setCell ⟨g, 6, none⟩ h
theorem Blk.set7 {w : World} {g : Nat} {t : TypeId} {a b c d e f h : Value} (k : Blk w g t #[a, b, c, d, e, f, h]) (a' b' c' d' e' f' h' : Value) : Blk (seven w g a' b' c' d' e' f' h') g t #[a', b', c', d', e', f', h'] := by
  unfold seven; simpa using ((((((k.set 0 a').set 1 b').set 2 c').set 3 d').set 4 e').set 5 f').set 6 h'
theorem below_set7 {w0 w : World} {B g : Nat} (h : Below B w0 w) (hg : B ≤ g) (a' b' c' d' e' f' h' : Value) : Below B w0 (seven w g a' b' c' d' e' f' h') :=
  ((((((h.setCell hg _).setCell hg _).setCell hg _).setCell hg _).setCell hg _).setCell hg _).setCell hg _
theorem Blk.far7 {w : World} {g k : Nat} {t : TypeId} {cs : Array Value} (h : Blk w k t cs) (hne : k ≠ g) (a' b' c' d' e' f' h' : Value) : Blk (seven w g a' b' c' d' e' f' h') k t cs :=
  ((((((h.far _ _ hne).far _ _ hne).far _ _ hne).far _ _ hne).far _ _ hne).far _ _ hne).far _ _ hne
theorem OwnB.far7 {w : World} {g base : Nat} {v : Value} {l : List UInt8} (h : OwnB w base v l) (hne : v.ownBlock ≠ some g) (a' b' c' d' e' f' h' : Value) : OwnB (seven w g a' b' c' d' e' f' h') base v l :=
  ((((((h.far (p := ⟨g, 0, none⟩) hne _).far (p := ⟨g, 1, none⟩) hne _).far (p := ⟨g, 2, none⟩) hne _).far (p := ⟨g, 3, none⟩) hne _).far (p := ⟨g, 4, none⟩) hne _).far (p := ⟨g, 5, none⟩) hne _).far (p := ⟨g, 6, none⟩) hne _
theorem size_seven (w : World) (g : Nat) (a b c d e f h : Value) : (seven w g a b c d e f h).heap.size = w.heap.size := by simp [seven, World.setCell]

set_option maxHeartbeats 1000000 in
theorem csound_any (n la de : Int) (h : Bool) (p L X : Nat) (w : World) (hL : L < 256) (hX : X < 256) :
    Calls Tryd.prog 55 #[.agg #[.int .i64 n, .int .i64 la, .int .i64 de, .bool h, .int .u64 p, .int .u8 L, .int .u8 X]] w fun e w' => e = .returned (.bool (soundC ⟨n, la, de, ⟨h, p, L, X⟩⟩)) ∧ Below w.heap.size w w' := by
  have K := Ks.one w #[.int .i64 n, .int .i64 la, .int .i64 de, .bool h, .int .u64 p, .int .u8 L, .int .u8 X] 48
  obtain ⟨R, hR⟩ : ∃ R, R = soundC ⟨n, la, de, ⟨h, p, L, X⟩⟩ := ⟨_, rfl⟩
  rw [← hR]
  have HR := Lib.hid hR
  have HK := Lib.hid K
  obtain ⟨⟨a0, a1, a2, a3, a4, a5, a6⟩, -⟩ := (HK.out.blk 1).sept
  clear K hR
  by_cases h0 : n = 0
  · subst h0
    have hz : (la = 0 ∧ de = 0 ∧ h = false ∧ p = 0 ∧ L = 0 ∧ X = 0) ∨ la ≠ 0 ∨ (la = 0 ∧ de ≠ 0) ∨ (la = 0 ∧ de = 0 ∧ h = true) ∨ (la = 0 ∧ de = 0 ∧ h = false ∧ p ≠ 0) ∨ (la = 0 ∧ de = 0 ∧ h = false ∧ p = 0 ∧ L ≠ 0) ∨ (la = 0 ∧ de = 0 ∧ h = false ∧ p = 0 ∧ L = 0 ∧ X ≠ 0) := by cases h <;> simp <;> omega
    rcases hz with ⟨rfl, rfl, rfl, rfl, rfl, rfl⟩ | h1 | ⟨rfl, h1⟩ | ⟨rfl, rfl, rfl⟩ | ⟨rfl, rfl, rfl, h1⟩ | ⟨rfl, rfl, rfl, rfl, h1⟩ | ⟨rfl, rfl, rfl, rfl, rfl, h1⟩
    · skip
      go_enter Tryd.func55, Tryd.ntmps55
      go_wp2_with fail
      go_ret
      refine ⟨?_, HK.out.top 0⟩
      rw [HR.out]
      unfold soundC
      rw [if_pos rfl]
      rfl
    · have hb : (la == 0) = false := beq_eq_false_iff_ne.2 h1
      go_enter Tryd.func55, Tryd.ntmps55
      go_wp2_with fail
      go_ret
      refine ⟨?_, HK.out.top 0⟩
      rw [HR.out]
      unfold soundC
      rw [if_pos rfl]
      simp [h1]
    · have hb : (de == 0) = false := beq_eq_false_iff_ne.2 h1
      go_enter Tryd.func55, Tryd.ntmps55
      go_wp2_with fail
      go_ret
      refine ⟨?_, HK.out.top 0⟩
      rw [HR.out]
      unfold soundC
      rw [if_pos rfl]
      simp [h1]
    · skip
      go_enter Tryd.func55, Tryd.ntmps55
      go_wp2_with fail
      go_ret
      refine ⟨?_, HK.out.top 0⟩
      rw [HR.out]
      unfold soundC
      rw [if_pos rfl]
      rfl
    · have hb : ((p : Int) == 0) = false := beq_eq_false_iff_ne.2 (by omega)
      go_enter Tryd.func55, Tryd.ntmps55
      go_wp2_with fail
      go_ret
      refine ⟨?_, HK.out.top 0⟩
      rw [HR.out]
      unfold soundC
      rw [if_pos rfl]
      simp [h1]
    · have hb : ((L : Int) == 0) = false := beq_eq_false_iff_ne.2 (by omega)
      go_enter Tryd.func55, Tryd.ntmps55
      go_wp2_with fail
      go_ret
      refine ⟨?_, HK.out.top 0⟩
      rw [HR.out]
      unfold soundC
      rw [if_pos rfl]
      simp [h1]
    · have hb : ((X : Int) == 0) = false := beq_eq_false_iff_ne.2 (by omega)
      go_enter Tryd.func55, Tryd.ntmps55
      go_wp2_with fail
      go_ret
      refine ⟨?_, HK.out.top 0⟩
      rw [HR.out]
      unfold soundC
      rw [if_pos rfl]
      simp [h1]
  · have k0 : (n == 0) = false := beq_eq_false_iff_ne.2 h0
    by_cases hp : 0 < n
    · have k1 : decide ((0 : Int) < n) = true := by simpa using hp
      cases h
      · go_enter Tryd.func55, Tryd.ntmps55
        go_wp2_with fail
        go_ret
        refine ⟨?_, HK.out.top 0⟩
        rw [HR.out]
        unfold soundC
        rw [if_neg h0]
        simp
      · go_enter Tryd.func55, Tryd.ntmps55
        go_wp2_with fail
        refine (xsound_any true p L X _ hL hX).mono ?_
        rintro e w2 ⟨rfl, b2⟩
        replace HK := Lib.hid (HK.out.go b2)
        clear b2 a0 a1 a2 a3 a4 a5 a6
        go_wp2_with fail
        go_ret
        refine ⟨?_, HK.out.top 0⟩
        rw [HR.out]
        unfold soundC
        rw [if_neg h0]
        simp [hp]
    · have k1 : decide ((0 : Int) < n) = false := by simp; omega
      go_enter Tryd.func55, Tryd.ntmps55
      go_wp2_with fail
      go_ret
      refine ⟨?_, HK.out.top 0⟩
      rw [HR.out]
      unfold soundC
      rw [if_neg h0]
      have : decide (0 < n) = false := by simpa using hp
      simp [this]

set_option maxHeartbeats 1000000 in
theorem rcsound_any (n la de : Int) (h : Bool) (p L X : Nat) (w : World) (hL : L < 256) (hX : X < 256) :
    Calls Tryd.prog 51 #[.agg #[.int .i64 n, .int .i64 la, .int .i64 de, .bool h, .int .u64 p, .int .u8 L, .int .u8 X]] w fun e w' => e = .returned (.bool (soundC ⟨n, la, de, ⟨h, p, L, X⟩⟩)) ∧ Below w.heap.size w w' := by
  have K := Ks.one w #[.int .i64 n, .int .i64 la, .int .i64 de, .bool h, .int .u64 p, .int .u8 L, .int .u8 X] 48
  obtain ⟨R, hR⟩ : ∃ R, R = soundC ⟨n, la, de, ⟨h, p, L, X⟩⟩ := ⟨_, rfl⟩
  rw [← hR]
  have HR := Lib.hid hR
  have HK := Lib.hid K
  obtain ⟨⟨a0, a1, a2, a3, a4, a5, a6⟩, -⟩ := (HK.out.blk 1).sept
  clear K hR
  by_cases hneg : n < 0
  · have k0 : decide (n < 0) = true := by simpa using hneg
    go_enter Tryd.func51, Tryd.ntmps51
    go_wp2_with fail
    go_ret
    refine ⟨?_, HK.out.top 0⟩
    rw [HR.out]
    unfold soundC
    rw [if_neg (by simp only; omega)]
    have : decide (0 < n) = false := by simp; omega
    simp [this]
  · have k0 : decide (n < 0) = false := by simpa using hneg
    by_cases h0 : n = 0
    · subst h0
      have hz : (la = 0 ∧ de = 0 ∧ h = false ∧ p = 0 ∧ L = 0 ∧ X = 0) ∨ la ≠ 0 ∨ (la = 0 ∧ de ≠ 0) ∨ (la = 0 ∧ de = 0 ∧ h = true) ∨ (la = 0 ∧ de = 0 ∧ h = false ∧ p ≠ 0) ∨ (la = 0 ∧ de = 0 ∧ h = false ∧ p = 0 ∧ L ≠ 0) ∨ (la = 0 ∧ de = 0 ∧ h = false ∧ p = 0 ∧ L = 0 ∧ X ≠ 0) := by cases h <;> simp <;> omega
      rcases hz with ⟨rfl, rfl, rfl, rfl, rfl, rfl⟩ | h1 | ⟨rfl, h1⟩ | ⟨rfl, rfl, rfl⟩ | ⟨rfl, rfl, rfl, h1⟩ | ⟨rfl, rfl, rfl, rfl, h1⟩ | ⟨rfl, rfl, rfl, rfl, rfl, h1⟩
      · skip
        go_enter Tryd.func51, Tryd.ntmps51
        go_wp2_with fail
        go_ret
        refine ⟨?_, HK.out.top 0⟩
        rw [HR.out]
        unfold soundC
        rw [if_pos rfl]
        rfl
      · have hb : (la == 0) = false := beq_eq_false_iff_ne.2 h1
        go_enter Tryd.func51, Tryd.ntmps51
        go_wp2_with fail
        go_ret
        refine ⟨?_, HK.out.top 0⟩
        rw [HR.out]
        unfold soundC
        rw [if_pos rfl]
        simp [h1]
      · have hb : (de == 0) = false := beq_eq_false_iff_ne.2 h1
        go_enter Tryd.func51, Tryd.ntmps51
        go_wp2_with fail
        go_ret
        refine ⟨?_, HK.out.top 0⟩
        rw [HR.out]
        unfold soundC
        rw [if_pos rfl]
        simp [h1]
      · skip
        go_enter Tryd.func51, Tryd.ntmps51
        go_wp2_with fail
        go_ret
        refine ⟨?_, HK.out.top 0⟩
        rw [HR.out]
        unfold soundC
        rw [if_pos rfl]
        rfl
      · have hb : ((p : Int) == 0) = false := beq_eq_false_iff_ne.2 (by omega)
        go_enter Tryd.func51, Tryd.ntmps51
        go_wp2_with fail
        go_ret
        refine ⟨?_, HK.out.top 0⟩
        rw [HR.out]
        unfold soundC
        rw [if_pos rfl]
        simp [h1]
      · have hb : ((L : Int) == 0) = false := beq_eq_false_iff_ne.2 (by omega)
        go_enter Tryd.func51, Tryd.ntmps51
        go_wp2_with fail
        go_ret
        refine ⟨?_, HK.out.top 0⟩
        rw [HR.out]
        unfold soundC
        rw [if_pos rfl]
        simp [h1]
      · have hb : ((X : Int) == 0) = false := beq_eq_false_iff_ne.2 (by omega)
        go_enter Tryd.func51, Tryd.ntmps51
        go_wp2_with fail
        go_ret
        refine ⟨?_, HK.out.top 0⟩
        rw [HR.out]
        unfold soundC
        rw [if_pos rfl]
        simp [h1]
    · have k1 : (n == 0) = false := beq_eq_false_iff_ne.2 h0
      have hp : 0 < n := by omega
      go_enter Tryd.func51, Tryd.ntmps51
      go_wp2_with fail
      refine (rxsound_any h p L X _ hL hX).mono ?_
      rintro e w2 ⟨rfl, b2⟩
      replace HK := Lib.hid (HK.out.go b2)
      clear b2 a0 a1 a2 a3 a4 a5 a6
      obtain ⟨⟨a0, a1, a2, a3, a4, a5, a6⟩, -⟩ := (HK.out.blk 1).sept
      cases hs : soundX ⟨h, p, L, X⟩
      · go_wp2_with fail
        go_ret
        refine ⟨?_, HK.out.top 0⟩
        rw [HR.out]
        unfold soundC
        rw [if_neg h0]
        simp [hs]
      · have Hs := Lib.hid hs
        clear hs
        go_wp2_with fail
        go_ret
        refine ⟨?_, HK.out.top 0⟩
        rw [HR.out]
        unfold soundC
        rw [if_neg h0]
        simp [Hs.out, hp]

set_option maxHeartbeats 1000000 in
/-- one more sample, but for its value -/
theorem cafter_any (n la de t : Int) (hh : Bool) (p L X : Nat) (w : World) (hn : in64 n) (hla : in64 la) (hde : in64 de) (ht : in64 t) :
    Calls Tryd.prog 70 #[.agg #[.int .i64 n, .int .i64 la, .int .i64 de, .bool hh, .int .u64 p, .int .u8 L, .int .u8 X], .int .i64 t] w fun e w' =>
      e = .returned (.agg #[.int .i64 (w64 (n + 1)), .int .i64 t, .int .i64 (if n = 0 then de else w64 (t - la)), .bool hh, .int .u64 p, .int .u8 L, .int .u8 X]) ∧ Below w.heap.size w w' := by
  have f1 : IntKind.i64.wrap (n + 1) = w64 (n + 1) := by rw [IntKind.wrap_i64]; rfl
  have f2 : IntKind.i64.wrap (t - la) = w64 (t - la) := by rw [IntKind.wrap_i64]; rfl
  obtain ⟨n1, hn1⟩ : ∃ x, x = w64 (n + 1) := ⟨_, rfl⟩
  obtain ⟨d1, hd1⟩ : ∃ x, x = w64 (t - la) := ⟨_, rfl⟩
  rw [← hn1] at f1 ⊢
  rw [← hd1] at f2 ⊢
  have HN := Lib.hid hn1
  have HD := Lib.hid hd1
  clear hn1 hd1
  have K := Ks.two w #[.int .i64 n, .int .i64 la, .int .i64 de, .bool hh, .int .u64 p, .int .u8 L, .int .u8 X] #[.int .i64 0, .int .i64 0, .int .i64 0, .bool false, .int .u64 0, .int .u8 0, .int .u8 0] 48 48
  have HK := Lib.hid K
  obtain ⟨⟨a0, a1, a2, a3, a4, a5, a6⟩, -⟩ := (HK.out.blk 1).sept
  clear K
  by_cases h0 : n = 0
  · subst h0
    go_enter Tryd.func70, Tryd.ntmps70
    go_wp2_with fail
    refine bodyPost_ret (v := .agg #[.int .i64 1, .int .i64 t, .int .i64 de, .bool hh, .int .u64 p, .int .u8 L, .int .u8 X]) (by simp [results, Tryd.results70, go_sem]) rfl ⟨by rw [HN.out]; rfl, ((below_alloc w _).alloc (by simp) _).alloc (by simp; omega) _⟩
  · have k0 : (n == 0) = false := beq_eq_false_iff_ne.2 h0
    rw [if_neg h0]
    go_enter Tryd.func70, Tryd.ntmps70
    go_wp2_with fail
    refine bodyPost_ret (v := .agg #[.int .i64 n1, .int .i64 t, .int .i64 d1, .bool hh, .int .u64 p, .int .u8 L, .int .u8 X]) (by simp [results, Tryd.results70, go_sem]) rfl ⟨rfl, ((below_alloc w _).alloc (by simp) _).alloc (by simp; omega) _⟩

end Go.Proofs.YtgnppnjhecfjeaaDoor

/- Layer 3: what a value would be, as the document reads it. -/
namespace Go.Proofs.YtgnppnjhecfjeaaDoor
open Go.RowKit

def ValOut (V : Nat × Nat × Nat) (e : Ending) : Prop :=
  ∃ v n c : Nat, e = .returned (.tuple #[.int .u64 v, .int .i64 n, .int .i64 c]) ∧ c = V.2.2 ∧ (c = 0 → v = V.1 ∧ n = V.2.1)

theorem val_facts (s : XV) {l : List UInt8} {m a : Nat} (hs : soundB l (m : Int) = true) (ha : a ≤ m) (hLW : s.lead + s.width ≤ 64) :
    (s.has = false ∧ ∃ g1 g2 : Nat, getSpec l (m : Int) (a : Int) 64 = (g1, g2) ∧ ((g2 = 10 ∧ (valX s ((bitl l m).drop a)).2.2 = 10) ∨ (g2 = 0 ∧ valX s ((bitl l m).drop a) = (g1, 64, 0)))) ∨
    (s.has = true ∧ ∃ g1 g2 : Nat, getSpec l (m : Int) (a : Int) 1 = (g1, g2) ∧
      ((g2 = 10 ∧ (valX s ((bitl l m).drop a)).2.2 = 10) ∨ (g2 = 0 ∧ g1 = 0 ∧ valX s ((bitl l m).drop a) = (s.prev, 1, 0)) ∨
       (g2 = 0 ∧ g1 = 1 ∧ a + 1 ≤ m ∧ ∃ k1 k2 : Nat, getSpec l (m : Int) ((a + 1 : Nat) : Int) 1 = (k1, k2) ∧
          ((k2 = 10 ∧ (valX s ((bitl l m).drop a)).2.2 = 10) ∨
           (k2 = 0 ∧ k1 = 0 ∧ a + 2 ≤ m ∧ ∃ d1 d2 : Nat, getSpec l (m : Int) ((a + 2 : Nat) : Int) (s.width : Int) = (d1, d2) ∧
             ((d2 = 10 ∧ (valX s ((bitl l m).drop a)).2.2 = 10) ∨ (d2 = 0 ∧ d1 < 2 ^ s.width ∧ valX s ((bitl l m).drop a) = (d1 * 2 ^ (64 - s.lead - s.width) ^^^ s.prev, 2 + s.width, 0)))) ∨
           (k2 = 0 ∧ k1 = 1 ∧ a + 2 ≤ m ∧ ∃ x1 x2 : Nat, getSpec l (m : Int) ((a + 2 : Nat) : Int) 5 = (x1, x2) ∧
             ((x2 = 10 ∧ (valX s ((bitl l m).drop a)).2.2 = 10) ∨ (x2 = 0 ∧ x1 < 32 ∧ a + 7 ≤ m ∧ ∃ y1 y2 : Nat, getSpec l (m : Int) ((a + 7 : Nat) : Int) 6 = (y1, y2) ∧
               ((y2 = 10 ∧ (valX s ((bitl l m).drop a)).2.2 = 10) ∨ (y2 = 0 ∧ y1 < 64 ∧ a + 13 ≤ m ∧
                 ((64 < x1 + (y1 + 1) ∧ (valX s ((bitl l m).drop a)).2.2 = 30) ∨
                  (x1 + (y1 + 1) ≤ 64 ∧ ∃ n1 n2 : Nat, getSpec l (m : Int) ((a + 13 : Nat) : Int) ((y1 + 1 : Nat) : Int) = (n1, n2) ∧
                    ((n2 = 10 ∧ (valX s ((bitl l m).drop a)).2.2 = 10) ∨ (n2 = 0 ∧ n1 < 2 ^ (y1 + 1) ∧ valX s ((bitl l m).drop a) = (n1 * 2 ^ (64 - x1 - (y1 + 1)) ^^^ s.prev, 13 + (y1 + 1), 0)))))))))))))) := by
  have hlen : ((bitl l m).drop a).length = m - a := by rw [List.length_drop, bitl_length]
  cases hh : s.has
  · refine Or.inl ⟨rfl, ?_⟩
    have h0 := get_front (d := 64) hs ha (by omega)
    rw [show ((64 : Nat) : Int) = 64 from rfl] at h0
    rw [h0]
    unfold valX
    rw [if_pos hh]
    by_cases h1 : ((bitl l m).drop a).length < 64
    · rw [if_pos h1, if_pos h1]
      exact ⟨0, 10, rfl, Or.inl ⟨rfl, rfl⟩⟩
    · rw [if_neg h1, if_neg h1]
      exact ⟨_, 0, rfl, Or.inr ⟨rfl, rfl⟩⟩
  · refine Or.inr ⟨rfl, ?_⟩
    have hne : ¬ s.has = false := by rw [hh]; decide
    rcases get_bit hs ha with ⟨hr, hma, hg⟩ | ⟨b, r, hr, hma, hr1, hg⟩
    · rw [hg, hr]
      exact ⟨0, 10, rfl, Or.inl ⟨rfl, by unfold valX; rw [if_neg hne]⟩⟩
    · rw [hg, hr]
      cases b
      · exact ⟨0, 0, rfl, Or.inr (Or.inl ⟨rfl, rfl, by unfold valX; rw [if_neg hne]⟩)⟩
      · refine ⟨1, 0, rfl, Or.inr (Or.inr ⟨rfl, rfl, hma, ?_⟩)⟩
        rcases get_bit (a := a + 1) hs hma with ⟨hr2, hma2, hg2⟩ | ⟨b2, r2, hr2, hma2, hr3, hg2⟩
        · rw [hg2]
          rw [hr1] at hr2
          rw [hr2]
          exact ⟨0, 10, rfl, Or.inl ⟨rfl, by unfold valX; rw [if_neg hne]⟩⟩
        · rw [hg2]
          rw [hr1] at hr2
          rw [hr2]
          have hr3 : (bitl l m).drop (a + 2) = r2 := hr3
          have hl2 : r2.length = m - (a + 2) := by rw [← hr3, List.length_drop, bitl_length]
          cases b2
          · refine ⟨0, 0, rfl, Or.inr (Or.inl ⟨rfl, rfl, hma2, ?_⟩)⟩
            have h0 := get_front (a := a + 2) (d := s.width) hs hma2 (by omega)
            rw [hr3] at h0
            rw [h0]
            by_cases h1 : r2.length < s.width
            · rw [if_pos h1]
              exact ⟨0, 10, rfl, Or.inl ⟨rfl, by unfold valX; rw [if_neg hne]; simp only [h1, ↓reduceIte]⟩⟩
            · rw [if_neg h1]
              exact ⟨_, 0, rfl, Or.inr ⟨rfl, take_lt _ _, by unfold valX; rw [if_neg hne]; simp only [h1, ↓reduceIte]⟩⟩
          · refine ⟨1, 0, rfl, Or.inr (Or.inr ⟨rfl, rfl, hma2, ?_⟩)⟩
            have hV : valX s (true :: true :: r2) = if r2.length < 11 then (0, 0, 10)
                else if 64 < numB (r2.take 5) + (numB ((r2.drop 5).take 6) + 1) then (0, 0, 30)
                else if r2.length < 11 + (numB ((r2.drop 5).take 6) + 1) then (0, 0, 10)
                else (numB ((r2.drop 11).take (numB ((r2.drop 5).take 6) + 1)) * 2 ^ (64 - numB (r2.take 5) - (numB ((r2.drop 5).take 6) + 1)) ^^^ s.prev, 13 + (numB ((r2.drop 5).take 6) + 1), 0) := by
              unfold valX
              rw [if_neg hne]
            rw [hV]
            have h0 := get_front (a := a + 2) (d := 5) hs hma2 (by omega)
            rw [show ((5 : Nat) : Int) = 5 from rfl, hr3] at h0
            rw [h0]
            by_cases h1 : r2.length < 5
            · rw [if_pos h1]
              exact ⟨0, 10, rfl, Or.inl ⟨rfl, by rw [if_pos (by omega)]⟩⟩
            · rw [if_neg h1]
              refine ⟨_, 0, rfl, Or.inr ⟨rfl, take_lt _ _, by omega, ?_⟩⟩
              have h6 := get_front (a := a + 7) (d := 6) hs (by omega) (by omega)
              have d5 : (bitl l m).drop (a + 7) = r2.drop 5 := by rw [← hr3, List.drop_drop]
              have d11 : (bitl l m).drop (a + 13) = r2.drop 11 := by rw [← hr3, List.drop_drop]
              rw [show ((6 : Nat) : Int) = 6 from rfl, d5, List.length_drop] at h6
              rw [h6]
              by_cases h2 : r2.length < 11
              · rw [if_pos (by omega)]
                exact ⟨0, 10, rfl, Or.inl ⟨rfl, by rw [if_pos h2]⟩⟩
              · rw [if_neg (by omega), if_neg h2]
                refine ⟨_, 0, rfl, Or.inr ⟨rfl, take_lt _ _, by omega, ?_⟩⟩
                have hg := get_front (a := a + 13) (d := numB ((r2.drop 5).take 6) + 1) hs (by omega) (by have := take_lt (r2.drop 5) 6; omega)
                rw [d11, List.length_drop] at hg
                rw [hg]
                generalize numB ((r2.drop 5).take 6) = Y at *
                generalize numB (r2.take 5) = X at *
                by_cases h3 : 64 < X + (Y + 1)
                · exact Or.inl ⟨h3, by rw [if_pos h3]⟩
                · refine Or.inr ⟨by omega, ?_⟩
                  rw [if_neg h3]
                  by_cases h4 : r2.length < 11 + (Y + 1)
                  · rw [if_pos (by omega), if_pos h4]
                    exact ⟨0, 10, rfl, Or.inl ⟨rfl, rfl⟩⟩
                  · rw [if_neg (by omega), if_neg h4]
                    exact ⟨_, 0, rfl, Or.inr ⟨rfl, take_lt _ _, rfl⟩⟩

set_option maxRecDepth 100000 in
set_option maxHeartbeats 1000000 in
theorem rxvalue_any (A : Option Addr) (c : Nat) (l : List UInt8) (m a : Nat) (h : Bool) (p L X : Nat) (w : World) (hb : Bs w A l) (hs : soundB l (m : Int) = true) (hl : l.length ≤ 100000) (ha : a ≤ m) (hm : m ≤ 800000) (hx : soundX ⟨h, p, L, X⟩ = true) (hp : p < 18446744073709551616) :
    Calls Tryd.prog 42 #[.agg #[.slice A l.length c, .int .i64 m], .int .i64 a, .agg #[.bool h, .int .u64 p, .int .u8 L, .int .u8 X]] w fun e w' => ValOut (valX ⟨h, p, L, X⟩ ((bitl l m).drop a)) e ∧ Below w.heap.size w w' := by
  have hLX : L + X ≤ 64 := by
    unfold soundX at hx
    cases h <;> simp at hx <;> omega
  have hf := val_facts ⟨h, p, L, X⟩ hs ha hLX
  obtain ⟨V, hV⟩ : ∃ V, V = valX ⟨h, p, L, X⟩ ((bitl l m).drop a) := ⟨_, rfl⟩
  rw [← hV] at hf ⊢
  clear hV hx
  have K := (Ks.two w #[.slice A l.length c, .int .i64 m] #[.bool h, .int .u64 p, .int .u8 L, .int .u8 X] 24 27).bs_ (hb.below (Ks.two w _ _ _ _ |>.top 0))
  have wr : ∀ k : Nat, k ≤ 64 → IntKind.i64.wrap ((a : Int) + k) = ((a + k : Nat) : Int) := fun k _ => by rw [IntKind.wrap_i64]; omega
  rcases hf with ⟨hh, g1, g2, hG, hc⟩ | ⟨hh, g1, g2, hG, hc⟩
  · skip
    subst hh
    go_enter Tryd.func42, Tryd.ntmps42
    go_wp2_with fail
    generalize (w.alloc (.cells #[.slice A l.length c, .int .i64 m] 24)).alloc (.cells #[.bool false, .int .u64 p, .int .u8 L, .int .u8 X] 27) = W0 at *
    have HK := Lib.hid K
    clear K hb
    obtain ⟨⟨u0, u1, u2, u3⟩, -⟩ := (HK.out.blk 3).quad
    obtain ⟨⟨v0, v1⟩, -⟩ := (HK.out.blk 2).duo
    have hg := refGet_any A c l m (a : Int) 64 W0 (HK.out.bs 0) (by omega) (by omega) (by omega) (by omega)
    rw [hG] at hg
    have HG := Lib.hid hg
    have HC := Lib.hid hc
    clear hg hG hc
    go_wp2_with fail
    refine HG.out.mono ?_
    rintro e w1 ⟨rfl, b1⟩
    replace HK := Lib.hid (HK.out.go b1)
    clear b1 HG u0 u1 u2 u3 v0 v1
    obtain ⟨⟨u0, u1, u2, u3⟩, -⟩ := (HK.out.blk 3).quad
    obtain ⟨⟨v0, v1⟩, -⟩ := (HK.out.blk 2).duo
    go_wp2_with fail
    refine bodyPost_ret (v := .tuple #[.int .u64 g1, .int .i64 64, .int .i64 g2]) (by simp [results, Tryd.results42, go_sem]) rfl ⟨⟨g1, 64, g2, rfl, ?_, ?_⟩, HK.out.top 1⟩
    · rcases HC.out with ⟨h1, h2⟩ | ⟨h1, h2⟩
      · rw [h1, h2]
      · rw [h1, h2]
    · rcases HC.out with ⟨h1, h2⟩ | ⟨h1, h2⟩
      · intro h; omega
      · intro _; rw [h2]; exact ⟨rfl, rfl⟩
  · skip
    subst hh
    go_enter Tryd.func42, Tryd.ntmps42
    go_wp2_with fail
    generalize (w.alloc (.cells #[.slice A l.length c, .int .i64 m] 24)).alloc (.cells #[.bool true, .int .u64 p, .int .u8 L, .int .u8 X] 27) = W0 at *
    have HK := Lib.hid K
    clear K hb
    obtain ⟨⟨u0, u1, u2, u3⟩, -⟩ := (HK.out.blk 3).quad
    obtain ⟨⟨v0, v1⟩, -⟩ := (HK.out.blk 2).duo
    have hg := refGet_any A c l m (a : Int) 1 W0 (HK.out.bs 0) (by omega) (by omega) (by omega) (by omega)
    rw [hG] at hg
    have HG := Lib.hid hg
    have HC := Lib.hid hc
    clear hg hG hc
    go_wp2_with fail
    refine HG.out.mono ?_
    rintro e w1 ⟨rfl, b1⟩
    replace HK := Lib.hid (HK.out.go b1)
    clear b1 HG u0 u1 u2 u3 v0 v1
    obtain ⟨⟨u0, u1, u2, u3⟩, -⟩ := (HK.out.blk 3).quad
    obtain ⟨⟨v0, v1⟩, -⟩ := (HK.out.blk 2).duo
    rcases HC.out with ⟨rfl, h2⟩ | ⟨rfl, rfl, h2⟩ | ⟨rfl, rfl, ha1, k1, k2, hG, hc⟩
    · have H := Lib.hid h2
      clear h2 HC
      go_wp2_with fail
      refine bodyPost_ret (v := .tuple #[.int .u64 p, .int .i64 1, .int .i64 10]) (by simp [results, Tryd.results42, go_sem]) rfl ⟨⟨p, 1, 10, rfl, H.out.symm, fun h => by cases h⟩, HK.out.top 1⟩
    · have H := Lib.hid h2
      clear h2 HC
      go_wp2_with fail
      refine bodyPost_ret (v := .tuple #[.int .u64 p, .int .i64 1, .int .i64 0]) (by simp [results, Tryd.results42, go_sem]) rfl ⟨⟨p, 1, 0, rfl, by rw [H.out], fun _ => by rw [H.out]; exact ⟨rfl, rfl⟩⟩, HK.out.top 1⟩
    · clear HC
      have hw1 : IntKind.i64.wrap ((a : Int) + 1) = ((a + 1 : Nat) : Int) := wr 1 (by omega)
      obtain ⟨a1, ha1⟩ : ∃ a1, a1 = a + 1 := ⟨_, rfl⟩
      rw [← ha1] at hw1 hG
      have HA1 := Lib.hid ha1
      clear ha1
      have hg := refGet_any A c l m (a1 : Int) 1 w1 (HK.out.bs 0) (by omega) (by omega) (by have := HA1.out; omega) (by omega)
      rw [hG] at hg
      have HG := Lib.hid hg
      have HC := Lib.hid hc
      clear hg hG hc
      go_wp2_with fail
      refine HG.out.mono ?_
      rintro e w2 ⟨rfl, b1⟩
      replace HK := Lib.hid (HK.out.go b1)
      clear b1 HG u0 u1 u2 u3 v0 v1
      obtain ⟨⟨u0, u1, u2, u3⟩, -⟩ := (HK.out.blk 3).quad
      obtain ⟨⟨v0, v1⟩, -⟩ := (HK.out.blk 2).duo
      rcases HC.out with ⟨rfl, h2⟩ | ⟨rfl, rfl, ha2, d1, d2, hG, hc⟩ | ⟨rfl, rfl, ha2, x1, x2, hG, hc⟩
      · have H := Lib.hid h2
        clear h2 HC
        go_wp2_with fail
        refine bodyPost_ret (v := .tuple #[.int .u64 0, .int .i64 0, .int .i64 10]) (by simp [results, Tryd.results42, go_sem]) rfl ⟨⟨0, 0, 10, rfl, H.out.symm, fun h => by cases h⟩, HK.out.top 1⟩
      · clear HC
        have hw2 : IntKind.i64.wrap ((a : Int) + 2) = ((a + 2 : Nat) : Int) := wr 2 (by omega)
        obtain ⟨a2, ha2⟩ : ∃ a2, a2 = a + 2 := ⟨_, rfl⟩
        rw [← ha2] at hw2 hG
        have HA2 := Lib.hid ha2
        clear ha2
        have f1 : IntKind.i64.wrap (X : Int) = (X : Int) := by rw [IntKind.wrap_i64]; omega
        have hg := refGet_any A c l m (a2 : Int) (X : Int) w2 (HK.out.bs 0) (by omega) (by omega) (by have := HA2.out; omega) (by omega)
        rw [hG] at hg
        have HG := Lib.hid hg
        have HC := Lib.hid hc
        clear hg hG hc
        go_wp2_with fail
        refine HG.out.mono ?_
        rintro e w3 ⟨rfl, b1⟩
        replace HK := Lib.hid (HK.out.go b1)
        clear b1 HG u0 u1 u2 u3 v0 v1
        obtain ⟨⟨u0, u1, u2, u3⟩, -⟩ := (HK.out.blk 3).quad
        obtain ⟨⟨v0, v1⟩, -⟩ := (HK.out.blk 2).duo
        rcases HC.out with ⟨rfl, h2⟩ | ⟨rfl, h2, h3⟩
        · have H := Lib.hid h2
          clear h2 HC
          go_wp2_with fail
          refine bodyPost_ret (v := .tuple #[.int .u64 0, .int .i64 0, .int .i64 10]) (by simp [results, Tryd.results42, go_sem]) rfl ⟨⟨0, 0, 10, rfl, H.out.symm, fun h => by cases h⟩, HK.out.top 1⟩
        · have hsh := shl_lt (g := d1) (W := X) (L := L) h2 (by omega)
          obtain ⟨s0, hs0⟩ : ∃ s0 : Nat, s0 = 64 - L - X := ⟨_, rfl⟩
          rw [← hs0] at hsh h3
          have j4 : min s0 64 = s0 := by omega
          obtain ⟨dd, hdd⟩ : ∃ dd : Nat, dd = d1 * 2 ^ s0 := ⟨_, rfl⟩
          rw [← hdd] at hsh h3
          have f2 : IntKind.u64.wrap ((d1 : Int) * 2 ^ s0) = (dd : Int) := by
            have e : ((d1 : Int) * 2 ^ s0) = (dd : Int) := by rw [hdd]; simp
            rw [e, IntKind.wrap_u64]; omega
          have f3 : IntKind.i64.wrap (L : Int) = (L : Int) := by rw [IntKind.wrap_i64]; omega
          obtain ⟨s2, hs2⟩ : ∃ s2 : Nat, s2 = 64 - L := ⟨_, rfl⟩
          have f4 : IntKind.i64.wrap ((64 : Int) - L) = (s2 : Int) := by rw [IntKind.wrap_i64]; omega
          have f5 : IntKind.i64.wrap ((s2 : Int) - X) = (s0 : Int) := by rw [IntKind.wrap_i64]; omega
          have f6 : IntKind.u64.wrap (s0 : Int) = (s0 : Int) := by rw [IntKind.wrap_u64]; omega
          obtain ⟨n13, hn13⟩ : ∃ n13 : Nat, n13 = 2 + X := ⟨_, rfl⟩
          have f7 : IntKind.i64.wrap ((2 : Int) + X) = (n13 : Int) := by rw [IntKind.wrap_i64]; omega
          rw [← hn13] at h3
          have hx : bits .xor .u64 (p : Int) (dd : Int) = ((dd ^^^ p : Nat) : Int) := by rw [xor_int p dd hp hsh, Nat.xor_comm]
          obtain ⟨vv, hvv⟩ : ∃ vv, vv = dd ^^^ p := ⟨_, rfl⟩
          rw [← hvv] at hx
          have Hvv := Lib.hid hvv
          have Hsh := Lib.hid hsh
          clear hvv hsh
          have H3 := Lib.hid h3
          clear h2 h3 HC hs0 hdd hs2 hn13
          go_wp2_with fail
          have hpc := plus_cell w3
          refine wp_region_tail_ext 19 (by kernel_rfl) (by kernel_rfl) ?_
          simp only [List.take_succ_cons, List.take_zero, List.drop_succ_cons, List.drop_zero]
          repeat (go_big_quiet_step (fail))
          refine wpQuiet_nil ?_
          rintro w5 ⟨z, rfl⟩
          replace HK := Lib.hid (HK.out.go (plus_below w3 z))
          clear hpc
          go_wp2_with fail
          refine bodyPost_ret (v := .tuple #[.int .u64 vv, .int .i64 n13, .int .i64 0]) (by simp [results, Tryd.results42, go_sem]) rfl ⟨⟨vv, n13, 0, rfl, by rw [H3.out], fun _ => by rw [H3.out]; exact ⟨Hvv.out, rfl⟩⟩, HK.out.top 1⟩
      · clear HC
        have hw2 : IntKind.i64.wrap ((a : Int) + 2) = ((a + 2 : Nat) : Int) := wr 2 (by omega)
        obtain ⟨a2, ha2⟩ : ∃ a2, a2 = a + 2 := ⟨_, rfl⟩
        rw [← ha2] at hw2 hG
        have HA2 := Lib.hid ha2
        clear ha2
        have hg := refGet_any A c l m (a2 : Int) 5 w2 (HK.out.bs 0) (by omega) (by omega) (by have := HA2.out; omega) (by omega)
        rw [hG] at hg
        have HG := Lib.hid hg
        have HC := Lib.hid hc
        clear hg hG hc
        go_wp2_with fail
        refine HG.out.mono ?_
        rintro e w3 ⟨rfl, b1⟩
        replace HK := Lib.hid (HK.out.go b1)
        clear b1 HG u0 u1 u2 u3 v0 v1
        obtain ⟨⟨u0, u1, u2, u3⟩, -⟩ := (HK.out.blk 3).quad
        obtain ⟨⟨v0, v1⟩, -⟩ := (HK.out.blk 2).duo
        rcases HC.out with ⟨rfl, h2⟩ | ⟨rfl, x32, h3, y1, y2, hG, hc⟩
        · have H := Lib.hid h2
          clear h2 HC
          go_wp2_with fail
          refine bodyPost_ret (v := .tuple #[.int .u64 0, .int .i64 0, .int .i64 10]) (by simp [results, Tryd.results42, go_sem]) rfl ⟨⟨0, 0, 10, rfl, H.out.symm, fun h => by cases h⟩, HK.out.top 1⟩
        · clear HC
          have hw7 : IntKind.i64.wrap ((a : Int) + 7) = ((a + 7 : Nat) : Int) := wr 7 (by omega)
          obtain ⟨a7, ha7⟩ : ∃ a7, a7 = a + 7 := ⟨_, rfl⟩
          rw [← ha7] at hw7 hG
          have HA7 := Lib.hid ha7
          clear ha7
          have hg := refGet_any A c l m (a7 : Int) 6 w3 (HK.out.bs 0) (by omega) (by omega) (by have := HA7.out; omega) (by omega)
          rw [hG] at hg
          have HG := Lib.hid hg
          have HC := Lib.hid hc
          clear hg hG hc
          go_wp2_with fail
          refine HG.out.mono ?_
          rintro e w4 ⟨rfl, b1⟩
          replace HK := Lib.hid (HK.out.go b1)
          clear b1 HG u0 u1 u2 u3 v0 v1
          obtain ⟨⟨u0, u1, u2, u3⟩, -⟩ := (HK.out.blk 3).quad
          obtain ⟨⟨v0, v1⟩, -⟩ := (HK.out.blk 2).duo
          rcases HC.out with ⟨rfl, h2⟩ | ⟨rfl, h2, h3, hc⟩
          · have H := Lib.hid h2
            clear h2 HC
            go_wp2_with fail
            refine bodyPost_ret (v := .tuple #[.int .u64 0, .int .i64 0, .int .i64 10]) (by simp [results, Tryd.results42, go_sem]) rfl ⟨⟨0, 0, 10, rfl, H.out.symm, fun h => by cases h⟩, HK.out.top 1⟩
          · clear HC
            obtain ⟨yy, hyy⟩ : ∃ yy, yy = y1 + 1 := ⟨_, rfl⟩
            rw [← hyy] at hc
            have f6 : IntKind.i64.wrap (y1 : Int) = (y1 : Int) := by rw [IntKind.wrap_i64]; omega
            have f7 : IntKind.i64.wrap ((y1 : Int) + 1) = (yy : Int) := by rw [IntKind.wrap_i64]; omega
            have f8 : IntKind.i64.wrap (x1 : Int) = (x1 : Int) := by rw [IntKind.wrap_i64]; omega
            obtain ⟨xy, hxy⟩ : ∃ xy, xy = x1 + yy := ⟨_, rfl⟩
            have f9 : IntKind.i64.wrap ((x1 : Int) + yy) = (xy : Int) := by rw [IntKind.wrap_i64]; omega
            rw [← hxy] at hc
            rcases hc with ⟨h64, hv⟩ | ⟨h64, n1, n2, hG, hc⟩
            · have H := Lib.hid hv
              have h65 : (64 : Int) < xy := by omega
              clear hv hyy hxy
              go_wp2_with fail
              refine bodyPost_ret (v := .tuple #[.int .u64 0, .int .i64 0, .int .i64 30]) (by simp [results, Tryd.results42, go_sem]) rfl ⟨⟨0, 0, 30, rfl, H.out.symm, fun h => by cases h⟩, HK.out.top 1⟩
            · have hw13 : IntKind.i64.wrap ((a : Int) + 13) = ((a + 13 : Nat) : Int) := wr 13 (by omega)
              obtain ⟨a13, ha13⟩ : ∃ a13, a13 = a + 13 := ⟨_, rfl⟩
              rw [← ha13] at hw13 hG
              have hy64 : yy ≤ 64 := by omega
              have h65 : ¬ (64 : Int) < xy := by omega
              rw [hxy] at h64
              clear hxy hyy
              have HA13 := Lib.hid ha13
              clear ha13
              have hg := refGet_any A c l m (a13 : Int) (yy : Int) w4 (HK.out.bs 0) (by omega) (by omega) (by have := HA13.out; omega) (by omega)
              rw [hG] at hg
              have HG := Lib.hid hg
              have HC := Lib.hid hc
              clear hg hG hc
              go_wp2_with fail
              refine HG.out.mono ?_
              rintro e w5 ⟨rfl, b1⟩
              replace HK := Lib.hid (HK.out.go b1)
              clear b1 HG u0 u1 u2 u3 v0 v1
              obtain ⟨⟨u0, u1, u2, u3⟩, -⟩ := (HK.out.blk 3).quad
              obtain ⟨⟨v0, v1⟩, -⟩ := (HK.out.blk 2).duo
              rcases HC.out with ⟨rfl, h2⟩ | ⟨rfl, h2, h3⟩
              · have H := Lib.hid h2
                clear h2 HC
                go_wp2_with fail
                refine bodyPost_ret (v := .tuple #[.int .u64 0, .int .i64 0, .int .i64 10]) (by simp [results, Tryd.results42, go_sem]) rfl ⟨⟨0, 0, 10, rfl, H.out.symm, fun h => by cases h⟩, HK.out.top 1⟩
              · have hsh := shl_lt (g := n1) (W := yy) (L := x1) h2 (by omega)
                obtain ⟨s0, hs0⟩ : ∃ s0 : Nat, s0 = 64 - x1 - yy := ⟨_, rfl⟩
                rw [← hs0] at hsh h3
                have hs1 : (64 : Int) - x1 - yy = s0 := by omega
                have j4 : min s0 64 = s0 := by omega
                obtain ⟨dd, hdd⟩ : ∃ dd : Nat, dd = n1 * 2 ^ s0 := ⟨_, rfl⟩
                rw [← hdd] at hsh h3
                have f1 : IntKind.u64.wrap ((n1 : Int) * 2 ^ s0) = (dd : Int) := by
                  have e : ((n1 : Int) * 2 ^ s0) = (dd : Int) := by rw [hdd]; simp
                  rw [e, IntKind.wrap_u64]; omega
                obtain ⟨s2, hs2⟩ : ∃ s2 : Nat, s2 = 64 - x1 := ⟨_, rfl⟩
                have f2 : IntKind.i64.wrap ((64 : Int) - x1) = (s2 : Int) := by rw [IntKind.wrap_i64]; omega
                have f3 : IntKind.i64.wrap ((s2 : Int) - yy) = (s0 : Int) := by rw [IntKind.wrap_i64]; omega
                have f4 : IntKind.u64.wrap (s0 : Int) = (s0 : Int) := by rw [IntKind.wrap_u64]; omega
                obtain ⟨n13, hn13⟩ : ∃ n13 : Nat, n13 = 13 + yy := ⟨_, rfl⟩
                have f5 : IntKind.i64.wrap ((13 : Int) + yy) = (n13 : Int) := by rw [IntKind.wrap_i64]; omega
                rw [← hn13] at h3
                have hx : bits .xor .u64 (p : Int) (dd : Int) = ((dd ^^^ p : Nat) : Int) := by rw [xor_int p dd hp hsh, Nat.xor_comm]
                obtain ⟨vv, hvv⟩ : ∃ vv, vv = dd ^^^ p := ⟨_, rfl⟩
                rw [← hvv] at hx
                have Hvv := Lib.hid hvv
                have Hsh := Lib.hid hsh
                clear hvv hsh
                have H3 := Lib.hid h3
                clear h2 h3 HC hs0 hs1 hdd hs2 hn13
                go_wp2_with fail
                refine bodyPost_ret (v := .tuple #[.int .u64 vv, .int .i64 n13, .int .i64 0]) (by simp [results, Tryd.results42, go_sem]) rfl ⟨⟨vv, n13, 0, rfl, by rw [H3.out], fun _ => by rw [H3.out]; exact ⟨Hvv.out, rfl⟩⟩, HK.out.top 1⟩

end Go.Proofs.YtgnppnjhecfjeaaDoor


/- Layer 3: the document's Get. -/
namespace Go.Proofs.YtgnppnjhecfjeaaDoor
open Go.RowKit

theorem valX_bd {s : XV} (hp : s.prev < 18446744073709551616) (hLW : s.lead + s.width ≤ 64) (r : List Bool) (h : (valX s r).2.2 = 0) : (valX s r).1 < 18446744073709551616 ∧ (valX s r).2.1 ≤ r.length ∧ (valX s r).2.1 ≤ 77 := by
  revert h
  unfold valX
  split
  · split
    · intro h; cases h
    · intro _
      exact ⟨take_lt r 64, by simp only; omega, by simp only; omega⟩
  · split
    · intro h; cases h
    · intro _; exact ⟨hp, by simp, by simp⟩
    · intro h; cases h
    · rename_i r
      split
      · intro h; cases h
      · intro _
        exact ⟨xor_lt' (shl_lt (take_lt _ _) hLW) hp, by simp only [List.length_cons]; omega, by simp only; omega⟩
    · rename_i r
      split
      · intro h; cases h
      · split
        · intro h; cases h
        · split
          · intro h; cases h
          · intro _
            have := take_lt (r.drop 5) 6
            exact ⟨xor_lt' (shl_lt (take_lt _ _) (by omega)) hp, by simp only [List.length_cons]; omega, by simp only; omega⟩

/-- what is returned for so a reading -/
def GetOut (R : Nat × Int × XV × Nat) (k : IntKind) : Ending := .returned (.tuple #[.int .u64 R.1, .int .i64 R.2.1, .agg #[.bool R.2.2.1.has, .int .u64 R.2.2.1.prev, .int .u8 R.2.2.1.lead, .int .u8 R.2.2.1.width], .int k R.2.2.2])

set_option maxRecDepth 100000 in
set_option maxHeartbeats 1000000 in
theorem rxget_in (A : Option Addr) (c : Nat) (l : List UInt8) (m a : Nat) (h : Bool) (p L X : Nat) (w : World) (hb : Bs w A l) (hs : soundB l (m : Int) = true) (hx : soundX ⟨h, p, L, X⟩ = true) (hl : l.length ≤ 100000) (ha : a ≤ m) (hp : p < 18446744073709551616) (hL : L < 256) (hX : X < 256) :
    Calls Tryd.prog 17 #[.agg #[.slice A l.length c, .int .i64 m], .int .i64 a, .agg #[.bool h, .int .u64 p, .int .u8 L, .int .u8 X]] w fun e w' => e = GetOut (getX l m ⟨h, p, L, X⟩ a) .i64 ∧ Below w.heap.size w w' := by
  have hmx : Tryd.prog.follows .mixedOrders = true := by kernel_rfl
  have hm8 : m ≤ 8 * l.length := by
    obtain ⟨m', h1, h2, -⟩ := sound_nat hs
    omega
  have hLX : L + X ≤ 64 := by
    unfold soundX at hx
    cases h <;> simp at hx <;> omega
  have K := (Ks.three w #[.slice A l.length c, .int .i64 m] #[.bool h, .int .u64 p, .int .u8 L, .int .u8 X] #[.bool false, .int .u64 0, .int .u8 0, .int .u8 0] 24 27 27).bs_ (hb.below (Ks.three w _ _ _ _ _ _ |>.top 0))
  have HE := Lib.hid (getX_dec (a := a) hs hx ha)
  have HV := Lib.hid (dec_val hx hp ((bitl l m).drop a))
  have HB := Lib.hid (valX_bd (s := ⟨h, p, L, X⟩) hp hLX ((bitl l m).drop a))
  have Hs := Lib.hid hs
  have Hx := Lib.hid hx
  have kf : ∀ i j : Nat, w.heap.size + 1 + 1 = w.heap.size + 2 := fun _ _ => rfl
  clear hs hx kf
  go_enter Tryd.func17, Tryd.ntmps17
  go_wp2_with fail
  generalize (((w.alloc (.cells #[.slice A l.length c, .int .i64 m] 24)).alloc (.cells #[.bool h, .int .u64 p, .int .u8 L, .int .u8 X] 27)).alloc (.cells #[.bool false, .int .u64 0, .int .u8 0, .int .u8 0] 27)) = W0 at *
  have HK := Lib.hid K
  clear K hb
  refine (refSound_any A c l m W0 (HK.out.bs 0) (by omega) (by omega)).mono ?_
  rintro e w1 ⟨rfl, b1⟩
  replace HK := Lib.hid (HK.out.go b1)
  clear b1
  rw [Hs.out]
  obtain ⟨⟨u0, u1, u2, u3⟩, -⟩ := (HK.out.blk 3).quad
  obtain ⟨⟨v0, v1⟩, -⟩ := (HK.out.blk 2).duo
  go_wp2_with fail
  refine (rxsound_any h p L X _ hL hX).mono ?_
  rintro e w2 ⟨rfl, b2⟩
  replace HK := Lib.hid (HK.out.go b2)
  clear b2 u0 u1 u2 u3 v0 v1
  rw [Hx.out]
  obtain ⟨⟨u0, u1, u2, u3⟩, -⟩ := (HK.out.blk 3).quad
  obtain ⟨⟨v0, v1⟩, -⟩ := (HK.out.blk 2).duo
  have c1 : ((a : Int) < 0) = False := by simp
  have c2 : ((m : Int) < (a : Int)) = False := by simp; omega
  have c3 : decide ((m : Int) < (a : Int)) = false := by simp; omega
  have c4 : decide (m < a) = false := by simp; omega
  go_wp2_with fail
  refine (rxvalue_any A c l m a h p L X w2 (HK.out.bs 0) Hs.out hl ha (by omega) Hx.out hp).mono ?_
  rintro e w3 ⟨⟨v, n, ec, rfl, hec, hok⟩, b3⟩
  replace HK := Lib.hid (HK.out.go b3)
  have Hec := Lib.hid hec
  have Hok := Lib.hid hok
  clear b3 u0 u1 u2 u3 v0 v1 hec hok c1 c2 c3 c4
  obtain ⟨⟨u0, u1, u2, u3⟩, -⟩ := (HK.out.blk 3).quad
  obtain ⟨⟨q0, q1, q2, q3⟩, g0, g1, g2, g3⟩ := (HK.out.blk 4).quad
  by_cases h0 : ec = 0
  · subst h0
    obtain ⟨k1, k2⟩ := Hok.out rfl
    obtain ⟨j1, j2, j3⟩ := HB.out Hec.out.symm
    rw [← k1] at j1
    rw [← k2] at j2 j3
    have hlen : ((bitl l m).drop a).length = m - a := by rw [List.length_drop, bitl_length]
    rw [hlen] at j2
    obtain ⟨N, hN⟩ : ∃ N, N = (encX ⟨h, p, L, X⟩ v).1 := ⟨_, rfl⟩
    obtain ⟨th, tp, tl, tb, hT⟩ : ∃ th tp tl tb, (encX ⟨h, p, L, X⟩ v).2 = ⟨th, tp, tl, tb⟩ := ⟨_, _, _, _, rfl⟩
    have hR : getX l m ⟨h, p, L, X⟩ a = if N = ((bitl l m).drop a).take n then (v, ((a + n : Nat) : Int), ⟨th, tp, tl, tb⟩, 0) else (0, 0, xv0, 30) := by
      rw [HE.out, HV.out, if_neg (by rw [← Hec.out]; simp), ← k1, ← k2, ← hN, hT]
      split <;> simp
    have HR := Lib.hid hR
    have hW := written_any h p L X v w3 j1 hp Hx.out
    unfold WrOut at hW
    rw [hT, ← hN] at hW
    have HW := Lib.hid hW
    have hNl : N.length ≤ 77 := by rw [hN]; exact (enc_len Hx.out hp j1).2
    clear hW hR hT hN k1 k2 hlen
    go_wp2_with fail
    refine HW.out.mono ?_
    clear HW
    rintro e w4 ⟨⟨A4, n4, c4, rfl, rfl, o4⟩, b4⟩
    replace HK := Lib.hid (((HK.out.go b4).own_ o4).box #[.bool th, .int .u64 tp, .int .u8 tl, .int .u8 tb] 27)
    have z4 := b4.size
    clear b4 o4 u0 u1 u2 u3 q0 q1 q2 q3 g0 g1 g2 g3
    obtain ⟨⟨u0, u1, u2, u3⟩, -⟩ := (HK.out.blk 5).quad
    obtain ⟨⟨q0, q1, q2, q3⟩, g0, g1, g2, g3⟩ := (HK.out.blk 6).quad
    obtain ⟨⟨y0, y1, y2, y3⟩, -⟩ := (HK.out.blk 0).quad
    by_cases hl2 : N.length = n
    · subst hl2
      have hc1 : ((N.length : Int) == (N.length : Int)) = true := by simp
      go_wp2_with fail
      obtain ⟨g5, hg5⟩ : ∃ g, g = w4.heap.size := ⟨_, rfl⟩
      obtain ⟨W5, hW5⟩ : ∃ W5, W5 = w4.alloc (.cells #[.bool th, .int .u64 tp, .int .u8 tl, .int .u8 tb] 27) := ⟨_, rfl⟩
      rw [← hW5] at HK ⊢
      rw [← hg5] at HK z4 ⊢
      clear hW5 hg5 u0 u1 u2 u3 q0 q1 q2 q3 g0 g1 g2 g3 y0 y1 y2 y3 hc1
      go_loopw [17] (fun i wr => ∃ k : Nat, k ≤ N.length ∧ i = .int .i64 k ∧ N.take k = ((bitl l m).drop a).take k ∧ Below W5.heap.size W5 wr) (fun i _ => N.length - (intOf i).toNat)
      case atStart => exact ⟨0, Nat.zero_le _, rfl, by simp, Below.refl _ _⟩
      case round =>
        obtain ⟨k, hk, rfl, htk, hbel⟩ := hrel
        replace HK := Lib.hid (HK.out.go hbel)
        have Htk := Lib.hid htk
        have Hbel := Lib.hid hbel
        clear htk hbel
        obtain ⟨⟨v0, v1⟩, -⟩ := (HK.out.blk 4).duo
        obtain ⟨⟨q0, q1, q2, q3⟩, g0, g1, g2, g3⟩ := (HK.out.blk 6).quad
        obtain ⟨⟨y0, y1, y2, y3⟩, -⟩ := (HK.out.blk 0).quad
        rcases Nat.lt_or_ge k N.length with hlt | hge
        · obtain ⟨gN, cN, hv, hbg, hgl, hcap⟩ := (HK.out.own 1).form (by rw [u8s_length]; omega)
          injection hv with e1 e2 e3
          subst e1
          have hcell := (HK.out.own 1).cell k (by rw [u8s_length]; omega)
          rw [u8s_get, show bv (b2u N[k]) = .int .u8 ((b2u N[k]).toNat : Int) from rfl] at hcell
          have hbit := refBit_any A c l (m : Int) (a + k) wr
          have hr := fun (z : More) => ext_of (refBit_any A c l (m : Int) (a + k) (plus wr z) ((HK.out.bs 2).below (plus_below _ _)) (by omega) (by unfold maxLen; omega))
          rw [show bv (b2u (bt l (a + k))) = .int .u8 ((b2u (bt l (a + k))).toNat : Int) from rfl] at hr
          obtain ⟨xk, hxk⟩ : ∃ x, x = (b2u N[k]).toNat := ⟨_, rfl⟩
          obtain ⟨yk, hyk⟩ : ∃ x, x = (b2u (bt l (a + k))).toNat := ⟨_, rfl⟩
          obtain ⟨ak, hak⟩ : ∃ x, x = a + k := ⟨_, rfl⟩
          rw [← hxk] at hcell
          rw [← hyk] at hr
          rw [← hak] at hr
          have hw : IntKind.i64.wrap ((a : Int) + k) = (ak : Int) := by rw [IntKind.wrap_i64]; omega
          have HR2 := Lib.hid hr
          have k0 : 0 ≤ (k : Int) := by omega
          have k1 : (k : Int) < N.length := by omega
          have hbt : ((bitl l m).drop a)[k]? = some (bt l (a + k)) := by
            rw [List.getElem?_drop]
            unfold bitl
            rw [List.getElem?_map, List.getElem?_range (by omega)]
            rfl
          have Hbt := Lib.hid hbt
          have hpc := plus_cell wr
          have Hxk := Lib.hid hxk
          have Hyk := Lib.hid hyk
          clear hr hbit hxk hyk hak hbt
          go_wp2_with fail
          refine wp_region_ext (by kernel_rfl) (by kernel_rfl) ?_
          repeat (go_big_quiet_step ((go_at_call 44; exact HR2.out _)))
          refine wpQuiet_nil ?_
          rintro w6 ⟨x, rfl⟩
          replace HK := Lib.hid (HK.out.go (plus_below wr x))
          clear hpc v0 v1 q0 q1 q2 q3 g0 g1 g2 g3 y0 y1 y2 y3 hcell HR2
          obtain ⟨⟨q0, q1, q2, q3⟩, g0, g1, g2, g3⟩ := (HK.out.blk 6).quad
          replace Hbel := Lib.hid (on1 Hbel.out (plus_below wr x))
          by_cases hxy : xk = yk
          · subst hxy
            have hd : ((xk : Int) == (xk : Int)) = true := by simp
            go_wp2_with fail
            go_roundw
            case measure => simp [intOf]; omega
            case rel =>
              refine ⟨k + 1, hlt, by go_num, ?_, Hbel.out⟩
              have hb : N[k] = bt l (a + k) := by
                have := Hxk.out.symm.trans Hyk.out
                revert this
                cases N[k] <;> cases bt l (a + k) <;> simp [b2u]
              rw [List.take_add_one, List.take_add_one, Htk.out, Hbt.out, List.getElem?_eq_getElem hlt, hb]
          · have hd : ((xk : Int) == (yk : Int)) = false := beq_eq_false_iff_ne.2 (by omega)
            go_wp2_with fail
            have FR := (HK.out.blk 6).set4 (.bool false) (.int .u64 0) (.int .u8 0) (.int .u8 0)
            obtain ⟨⟨s0, s1, s2, s3⟩, -⟩ := FR.quad
            refine bodyPost_ret (v := .tuple #[.int .u64 0, .int .i64 0, .agg #[.bool false, .int .u64 0, .int .u8 0, .int .u8 0], .int .i64 30]) (by simp [results, Tryd.results17, go_sem, s0, s1, s2, s3]) rfl ⟨?_, below_set4 (HK.out.top 3) (by omega) _ _ _ _⟩
            rw [HR.out, if_neg]
            · rfl
            · intro e
              apply hxy
              have h1 : N[k]? = some (bt l (a + k)) := by rw [e, List.getElem?_take_of_lt hlt, Hbt.out]
              rw [List.getElem?_eq_getElem hlt] at h1
              rw [Hxk.out, Hyk.out, Option.some.inj h1]
        · obtain rfl : k = N.length := by omega
          have hR : getX l m ⟨h, p, L, X⟩ a = (v, ((a + N.length : Nat) : Int), ⟨th, tp, tl, tb⟩, 0) := by
            rw [HR.out, if_pos]
            have := Htk.out
            rwa [List.take_length] at this
          obtain ⟨an, han⟩ : ∃ x, x = a + N.length := ⟨_, rfl⟩
          have hw : IntKind.i64.wrap ((a : Int) + N.length) = (an : Int) := by rw [IntKind.wrap_i64]; omega
          rw [← han] at hR
          have HR3 := Lib.hid hR
          have hpc := plus_cell wr
          clear hR han
          go_wp2_with fail
          refine wp_region_tail_ext 7 (by kernel_rfl) (by kernel_rfl) ?_
          simp only [List.take_succ_cons, List.take_zero, List.drop_succ_cons, List.drop_zero]
          repeat (go_big_quiet_step (fail))
          refine wpQuiet_nil ?_
          rintro w6 ⟨x, rfl⟩
          replace HK := Lib.hid (HK.out.go (plus_below wr x))
          clear hpc v0 v1 q0 q1 q2 q3 g0 g1 g2 g3 y0 y1 y2 y3
          obtain ⟨⟨q0, q1, q2, q3⟩, g0, g1, g2, g3⟩ := (HK.out.blk 6).quad
          go_wp2_with fail
          have FR := (HK.out.blk 6).set4 (.bool th) (.int .u64 tp) (.int .u8 tl) (.int .u8 tb)
          obtain ⟨⟨s0, s1, s2, s3⟩, -⟩ := FR.quad
          refine bodyPost_ret (v := .tuple #[.int .u64 v, .int .i64 an, .agg #[.bool th, .int .u64 tp, .int .u8 tl, .int .u8 tb], .int .i64 0]) (by simp [results, Tryd.results17, go_sem, s0, s1, s2, s3]) rfl ⟨?_, below_set4 (HK.out.top 3) (by omega) _ _ _ _⟩
          rw [HR3.out]
          rfl
    · have hc1 : ((N.length : Int) == (n : Int)) = false := beq_eq_false_iff_ne.2 (by omega)
      go_wp2_with fail
      have FR := (HK.out.blk 6).set4 (.bool false) (.int .u64 0) (.int .u8 0) (.int .u8 0)
      obtain ⟨⟨s0, s1, s2, s3⟩, -⟩ := FR.quad
      refine bodyPost_ret (v := .tuple #[.int .u64 0, .int .i64 0, .agg #[.bool false, .int .u64 0, .int .u8 0, .int .u8 0], .int .i64 30]) (by simp [results, Tryd.results17, go_sem, s0, s1, s2, s3]) rfl ⟨?_, below_set4 (HK.out.top 3) (by omega) _ _ _ _⟩
      rw [HR.out, if_neg (fun e => hl2 (by rw [e, List.length_take, List.length_drop, bitl_length]; omega))]
      rfl
  · have h0' : ((ec : Int) == 0) = false := beq_eq_false_iff_ne.2 (by omega)
    go_wp2_with fail
    have FR := (HK.out.blk 4).set4 (.bool false) (.int .u64 0) (.int .u8 0) (.int .u8 0)
    obtain ⟨⟨s0, s1, s2, s3⟩, -⟩ := FR.quad
    refine bodyPost_ret (v := .tuple #[.int .u64 0, .int .i64 0, .agg #[.bool false, .int .u64 0, .int .u8 0, .int .u8 0], .int .i64 ec]) (by simp [results, Tryd.results17, go_sem, s0, s1, s2, s3]) rfl ⟨?_, below_set4 (HK.out.top 1) (by omega) _ _ _ _⟩
    rw [HE.out, HV.out, if_pos (by rw [← Hec.out]; exact h0), ← Hec.out]
    simp [GetOut, xv0, h0]

end Go.Proofs.YtgnppnjhecfjeaaDoor

/- Layer 3: the document's Get of any bits at any place; XorGets, XorOnly. -/
namespace Go.Proofs.YtgnppnjhecfjeaaDoor
open Go.RowKit

set_option maxRecDepth 100000 in
set_option maxHeartbeats 1000000 in
theorem rxget_any (A : Option Addr) (c : Nat) (l : List UInt8) (n at_ : Int) (h : Bool) (p L X : Nat) (w : World) (hb : Bs w A l) (hn : -9223372036854775808 ≤ n ∧ n ≤ 9223372036854775807) (hl : l.length ≤ 100000) (ha : -9223372036854775808 ≤ at_ ∧ at_ ≤ 9223372036854775807) (hp : p < 18446744073709551616) (hL : L < 256) (hX : X < 256) :
    Calls Tryd.prog 17 #[.agg #[.slice A l.length c, .int .i64 n], .int .i64 at_, .agg #[.bool h, .int .u64 p, .int .u8 L, .int .u8 X]] w fun e w' => e = GetOut (getX l n ⟨h, p, L, X⟩ at_) .i64 ∧ Below w.heap.size w w' := by
  by_cases hin : soundB l n = true ∧ soundX ⟨h, p, L, X⟩ = true ∧ 0 ≤ at_ ∧ at_ ≤ n
  · obtain ⟨h1, h2, h3, h4⟩ := hin
    obtain ⟨m, rfl, -, -⟩ := sound_nat h1
    obtain ⟨a, rfl⟩ := Int.eq_ofNat_of_zero_le h3
    exact rxget_in A c l m a h p L X w hb h1 h2 hl (by omega) hp hL hX
  · have K := (Ks.three w #[.slice A l.length c, .int .i64 n] #[.bool h, .int .u64 p, .int .u8 L, .int .u8 X] #[.bool false, .int .u64 0, .int .u8 0, .int .u8 0] 24 27 27).bs_ (hb.below (Ks.three w _ _ _ _ _ _ |>.top 0))
    have Hin := Lib.hid hin
    clear hin
    go_enter Tryd.func17, Tryd.ntmps17
    go_wp2_with fail
    generalize (((w.alloc (.cells #[.slice A l.length c, .int .i64 n] 24)).alloc (.cells #[.bool h, .int .u64 p, .int .u8 L, .int .u8 X] 27)).alloc (.cells #[.bool false, .int .u64 0, .int .u8 0, .int .u8 0] 27)) = W0 at *
    have HK := Lib.hid K
    clear K hb
    refine (refSound_any A c l n W0 (HK.out.bs 0) (by omega) (by omega)).mono ?_
    rintro e w1 ⟨rfl, b1⟩
    replace HK := Lib.hid (HK.out.go b1)
    clear b1
    obtain ⟨⟨u0, u1, u2, u3⟩, -⟩ := (HK.out.blk 3).quad
    obtain ⟨⟨q0, q1, q2, q3⟩, g0, g1, g2, g3⟩ := (HK.out.blk 4).quad
    cases hs : soundB l n
    · have Hs := Lib.hid hs
      clear hs
      go_wp2_with fail
      have FR := (HK.out.blk 4).set4 (.bool false) (.int .u64 0) (.int .u8 0) (.int .u8 0)
      obtain ⟨⟨s0, s1, s2, s3⟩, -⟩ := FR.quad
      refine bodyPost_ret (v := .tuple #[.int .u64 0, .int .i64 0, .agg #[.bool false, .int .u64 0, .int .u8 0, .int .u8 0], .int .i64 11]) (by simp [results, Tryd.results17, go_sem, s0, s1, s2, s3]) rfl ⟨?_, below_set4 (HK.out.top 1) (by omega) _ _ _ _⟩
      unfold getX
      rw [if_pos Hs.out]
      rfl
    · obtain ⟨m, rfl, hm8, -⟩ := sound_nat hs
      have Hs := Lib.hid hs
      clear hs
      go_wp2_with fail
      refine (rxsound_any h p L X _ hL hX).mono ?_
      rintro e w2 ⟨rfl, b2⟩
      replace HK := Lib.hid (HK.out.go b2)
      clear b2 u0 u1 u2 u3 q0 q1 q2 q3 g0 g1 g2 g3
      obtain ⟨⟨v0, v1⟩, -⟩ := (HK.out.blk 2).duo
      obtain ⟨⟨q0, q1, q2, q3⟩, g0, g1, g2, g3⟩ := (HK.out.blk 4).quad
      cases hx : soundX ⟨h, p, L, X⟩
      · have Hx := Lib.hid hx
        clear hx
        go_wp2_with fail
        have FR := (HK.out.blk 4).set4 (.bool false) (.int .u64 0) (.int .u8 0) (.int .u8 0)
        obtain ⟨⟨s0, s1, s2, s3⟩, -⟩ := FR.quad
        refine bodyPost_ret (v := .tuple #[.int .u64 0, .int .i64 0, .agg #[.bool false, .int .u64 0, .int .u8 0, .int .u8 0], .int .i64 30]) (by simp [results, Tryd.results17, go_sem, s0, s1, s2, s3]) rfl ⟨?_, below_set4 (HK.out.top 1) (by omega) _ _ _ _⟩
        unfold getX
        rw [if_neg (by rw [Hs.out]; decide), if_pos Hx.out]
        rfl
      · have ho : at_ < 0 ∨ (m : Int) < at_ := by
          by_cases h1 : at_ < 0
          · exact Or.inl h1
          · by_cases h2 : (m : Int) < at_
            · exact Or.inr h2
            · exact absurd ⟨Hs.out, hx, by omega, by omega⟩ Hin.out
        have hX2 := Lib.hid (getX_out Hs.out hx ho)
        clear hx
        rcases (show decide (at_ < 0) = true ∨ (decide (at_ < 0) = false ∧ decide ((m : Int) < at_) = true) by
          rcases ho with h1 | h1
          · exact Or.inl (by simpa using h1)
          · by_cases h2 : at_ < 0
            · exact Or.inl (by simpa using h2)
            · exact Or.inr ⟨by simp; omega, by simpa using h1⟩) with d1 | ⟨d1, d2⟩
        all_goals
          clear ho
          go_wp2_with fail
          have FR := (HK.out.blk 4).set4 (.bool false) (.int .u64 0) (.int .u8 0) (.int .u8 0)
          obtain ⟨⟨s0, s1, s2, s3⟩, -⟩ := FR.quad
          refine bodyPost_ret (v := .tuple #[.int .u64 0, .int .i64 0, .agg #[.bool false, .int .u64 0, .int .u8 0, .int .u8 0], .int .i64 10]) (by simp [results, Tryd.results17, go_sem, s0, s1, s2, s3]) rfl ⟨?_, below_set4 (HK.out.top 1) (by omega) _ _ _ _⟩
          rw [hX2.out]
          rfl

theorem getX_code (l : List UInt8) (n : Int) (s : XV) (a : Int) : (getX l n s a).2.2.2 ≤ 30 := by
  unfold getX
  split
  · simp
  · split
    · simp
    · split
      · simp
      · simp only [decI]
        split
        · simp
        · exact decD_ok _ _

set_option maxRecDepth 100000 in
set_option maxHeartbeats 1000000 in
theorem xorGets_walk (A : Option Addr) (c : Nat) (l : List UInt8) (n at_ : Int) (h : Bool) (p L X : Nat) (w : World) (hb : Bs w A l) (hn : -9223372036854775808 ≤ n ∧ n ≤ 9223372036854775807) (hl : l.length ≤ maxLen) (ha : -9223372036854775808 ≤ at_ ∧ at_ ≤ 9223372036854775807)
    (hp : p < 18446744073709551616) (hL : L < 256) (hX : X < 256) (hT : Tab w) :
    Calls Tryd.prog 3 #[.agg #[.slice A l.length c, .int .i64 n], .int .i64 at_, .agg #[.bool h, .int .u64 p, .int .u8 L, .int .u8 X]] w fun e w' => e = .returned (.bool true) ∧ Below w.heap.size w w' := by
  have K := ((Ks.two w #[.slice A l.length c, .int .i64 n] #[.bool h, .int .u64 p, .int .u8 L, .int .u8 X] 24 27)).bs_ (hb.below (Ks.two w _ _ _ _ |>.top 0)) |>.tab_ (tabGo hT (Ks.two w _ _ _ _ |>.top 0))
  have HK := Lib.hid K
  obtain ⟨⟨v0, v1⟩, -⟩ := (HK.out.blk 3).duo
  clear K hb hT
  unfold maxLen at hl
  by_cases hlen : 500 < l.length
  · have hI : (500 : Int) < l.length := by omega
    go_enter Tryd.func3, Tryd.ntmps3
    go_wp2_with fail
    refine (xknown_any _ (HK.out.tab 0)).mono ?_
    rintro e w1 ⟨rfl, b1⟩
    replace HK := Lib.hid (HK.out.go b1)
    clear b1
    go_wp2_with fail
    go_ret
    exact ⟨rfl, HK.out.top 2⟩
  · have hI : ¬ (500 : Int) < l.length := by omega
    obtain ⟨v, nx, th, tp, tl, tb, ec, hP⟩ : ∃ v nx th tp tl tb ec, getX l n ⟨h, p, L, X⟩ at_ = (v, nx, ⟨th, tp, tl, tb⟩, ec) := ⟨_, _, _, _, _, _, _, rfl⟩
    have hec : ec ≤ 30 := by have := getX_code l n ⟨h, p, L, X⟩ at_; rw [hP] at this; exact this
    have hwr : IntKind.i64.wrap (ec : Int) = (ec : Int) := by rw [IntKind.wrap_i64]; omega
    have HP := Lib.hid hP
    clear hP
    go_enter Tryd.func3, Tryd.ntmps3
    go_wp2_with fail
    generalize (w.alloc (.cells #[.slice A l.length c, .int .i64 n] 24)).alloc (.cells #[.bool h, .int .u64 p, .int .u8 L, .int .u8 X] 27) = W0 at *
    refine (xknown_any _ (HK.out.tab 0)).mono ?_
    rintro e w1 ⟨rfl, b1⟩
    replace HK := Lib.hid (HK.out.go b1)
    clear b1 v0 v1
    obtain ⟨⟨v0, v1⟩, -⟩ := (HK.out.blk 3).duo
    obtain ⟨⟨u0, u1, u2, u3⟩, -⟩ := (HK.out.blk 4).quad
    go_wp2_with fail
    refine (xget_any A c l n at_ h p L X w1 (HK.out.bs 1) hn (by omega) ha hp hL hX (HK.out.tab 0)).mono ?_
    rintro e w2 ⟨rfl, b2⟩
    rw [HP.out]
    simp only
    replace HK := Lib.hid ((HK.out.go b2).box #[.bool th, .int .u64 tp, .int .u8 tl, .int .u8 tb] 27)
    have z2 := b2.size
    clear b2 v0 v1 u0 u1 u2 u3
    obtain ⟨⟨v0, v1⟩, -⟩ := (HK.out.blk 4).duo
    obtain ⟨⟨u0, u1, u2, u3⟩, -⟩ := (HK.out.blk 5).quad
    go_wp2_with fail
    refine (rxget_any A c l n at_ h p L X _ (HK.out.bs 2) hn (by omega) ha hp hL hX).mono ?_
    rintro e w3 ⟨rfl, b3⟩
    rw [HP.out]
    unfold GetOut
    simp only
    replace HK := Lib.hid ((HK.out.go b3).box #[.bool th, .int .u64 tp, .int .u8 tl, .int .u8 tb] 27)
    have z3 := b3.size
    simp only [World.size_alloc] at z3
    clear b3 v0 v1 u0 u1 u2 u3
    obtain ⟨⟨u0, u1, u2, u3⟩, -⟩ := (HK.out.blk 1).quad
    obtain ⟨⟨y0, y1, y2, y3⟩, -⟩ := (HK.out.blk 0).quad
    go_wp2_with fail
    go_ret
    exact ⟨by simp, HK.out.top 4⟩

theorem getX_cases (l : List UInt8) (n : Int) {s : XV} (hp : s.prev < 18446744073709551616) (a : Int) :
    (∃ ec, ec ≠ 0 ∧ getX l n s a = (0, 0, xv0, ec)) ∨ (∃ (m b v k : Nat) (t : XV), n = m ∧ a = b ∧ soundB l (m : Int) = true ∧ soundX s = true ∧ b + k ≤ m ∧ getX l n s a = (v, ((b + k : Nat) : Int), t, 0) ∧ encX s v = (((bitl l m).drop b).take k, t) ∧ v < 18446744073709551616 ∧ k ≤ 77 ∧ decX s ((bitl l m).drop b) = (v, k, t, 0)) := by
  cases hs : soundB l n
  · exact Or.inl ⟨11, by decide, by unfold getX; rw [if_pos hs]⟩
  · cases hx : soundX s
    · exact Or.inl ⟨30, by decide, by unfold getX; rw [if_neg (by rw [hs]; decide), if_pos hx]⟩
    · obtain ⟨m, rfl, -, -⟩ := sound_nat hs
      by_cases ho : a < 0 ∨ (m : Int) < a
      · exact Or.inl ⟨10, by decide, getX_out hs hx ho⟩
      · obtain ⟨b, rfl⟩ := Int.eq_ofNat_of_zero_le (show 0 ≤ a by omega)
        have hg := getX_dec (a := b) hs hx (by omega)
        obtain ⟨v, k, t, c, hd⟩ : ∃ v k t c, decX s ((bitl l m).drop b) = (v, k, t, c) := ⟨_, _, _, _, rfl⟩
        rw [hd] at hg
        simp only at hg
        by_cases hc : c = 0
        · subst hc
          obtain ⟨h1, h2, h3, h4, h5⟩ := dec_only hx hp hd
          rw [List.length_drop, bitl_length] at h1
          exact Or.inr ⟨m, b, v, k, t, rfl, rfl, hs, rfl, by omega, by simpa using hg, h2, h3, h5, hd⟩
        · rcases val_cases hx hp ((bitl l m).drop b) with ⟨h1, -⟩ | ⟨h1, h2, -⟩
          · rw [hd] at h1; exact absurd h1 hc
          · rw [hd] at h2
            simp only [Prod.mk.injEq] at h2
            obtain ⟨rfl, rfl, rfl, -⟩ := h2
            exact Or.inl ⟨c, hc, by rw [hg, if_neg hc]⟩

set_option maxRecDepth 100000 in
set_option maxHeartbeats 1000000 in
theorem xorOnly_walk (A : Option Addr) (c : Nat) (l : List UInt8) (n at_ : Int) (h : Bool) (p L X : Nat) (w : World) (hb : Bs w A l) (hn : -9223372036854775808 ≤ n ∧ n ≤ 9223372036854775807) (hl : l.length ≤ maxLen) (ha : -9223372036854775808 ≤ at_ ∧ at_ ≤ 9223372036854775807)
    (hp : p < 18446744073709551616) (hL : L < 256) (hX : X < 256) (hT : Tab w) :
    Calls Tryd.prog 5 #[.agg #[.slice A l.length c, .int .i64 n], .int .i64 at_, .agg #[.bool h, .int .u64 p, .int .u8 L, .int .u8 X]] w fun e w' => e = .returned (.bool true) ∧ Below w.heap.size w w' := by
  have K := ((Ks.two w #[.slice A l.length c, .int .i64 n] #[.bool h, .int .u64 p, .int .u8 L, .int .u8 X] 24 27)).bs_ (hb.below (Ks.two w _ _ _ _ |>.top 0)) |>.tab_ (tabGo hT (Ks.two w _ _ _ _ |>.top 0))
  have HK := Lib.hid K
  obtain ⟨⟨v0, v1⟩, -⟩ := (HK.out.blk 3).duo
  clear K hb hT
  unfold maxLen at hl
  by_cases hlen : 500 < l.length
  · have hI : (500 : Int) < l.length := by omega
    go_enter Tryd.func5, Tryd.ntmps5
    go_wp2_with fail
    refine (xknown_any _ (HK.out.tab 0)).mono ?_
    rintro e w1 ⟨rfl, b1⟩
    replace HK := Lib.hid (HK.out.go b1)
    clear b1
    go_wp2_with fail
    go_ret
    exact ⟨rfl, HK.out.top 2⟩
  · have hI : ¬ (500 : Int) < l.length := by omega
    have HC := Lib.hid (getX_cases l n (s := ⟨h, p, L, X⟩) hp at_)
    go_enter Tryd.func5, Tryd.ntmps5
    go_wp2_with fail
    generalize (w.alloc (.cells #[.slice A l.length c, .int .i64 n] 24)).alloc (.cells #[.bool h, .int .u64 p, .int .u8 L, .int .u8 X] 27) = W0 at *
    refine (xknown_any _ (HK.out.tab 0)).mono ?_
    rintro e w1 ⟨rfl, b1⟩
    replace HK := Lib.hid (HK.out.go b1)
    clear b1 v0 v1
    obtain ⟨⟨v0, v1⟩, -⟩ := (HK.out.blk 3).duo
    obtain ⟨⟨u0, u1, u2, u3⟩, -⟩ := (HK.out.blk 4).quad
    go_wp2_with fail
    refine (xget_any A c l n at_ h p L X w1 (HK.out.bs 1) hn (by omega) ha hp hL hX (HK.out.tab 0)).mono ?_
    rintro e w2 ⟨rfl, b2⟩
    have HG := Lib.hid ((HK.out.go b2))
    have z2 := b2.size
    clear v0 v1 u0 u1 u2 u3
    rcases HC.out with ⟨ec, he, hP⟩ | ⟨m, b, v, k, ⟨th, tp, tl, tb⟩, rfl, rfl, hs, hx, hbk, hP, hE, hv, hk, hd⟩
    · rw [hP]
      simp only [xv0]
      replace HK := Lib.hid ((HK.out.go b2).box #[.bool false, .int .u64 0, .int .u8 0, .int .u8 0] 27)
      have he2 : ((ec : Int) == 0) = false := beq_eq_false_iff_ne.2 (by omega)
      clear b2 HC hP HG
      obtain ⟨⟨y0, y1, y2, y3⟩, -⟩ := (HK.out.blk 0).quad
      go_wp2_with fail
      go_ret
      exact ⟨by simp, HK.out.top 3⟩
    · rw [hP]
      simp only
      replace HK := Lib.hid ((HK.out.go b2).box #[.bool th, .int .u64 tp, .int .u8 tl, .int .u8 tb] 27)
      obtain ⟨N, hN⟩ : ∃ N, N = ((bitl l m).drop b).take k := ⟨_, rfl⟩
      have hNl : N.length = k := by rw [hN, List.length_take, List.length_drop, bitl_length]; omega
      have hcut : cutl l b k = N := by rw [hN, cutl_bitl l m b k hbk]
      obtain ⟨-, e1, e2, -⟩ := enc_sound hx hp hv
      rw [hE] at e1 e2
      have e1 : tp = v := e1
      have e2 : th = true := e2
      subst e1 e2
      rw [← hN] at hE
      have HE := Lib.hid hE
      have Hs := Lib.hid hs
      have Hx := Lib.hid hx
      have HN := Lib.hid hNl
      have Hcut := Lib.hid hcut
      obtain ⟨bk, hbk2⟩ : ∃ x, x = b + k := ⟨_, rfl⟩
      rw [← hbk2] at hbk ⊢
      have Hbk := Lib.hid hbk2
      clear b2 HC hP HG hs hx hE hN hNl hcut hd hbk2
      obtain ⟨⟨v0, v1⟩, -⟩ := (HK.out.blk 4).duo
      obtain ⟨⟨u0, u1, u2, u3⟩, -⟩ := (HK.out.blk 5).quad
      have hC := xput_M none 0 [] N h p L X tp ⟨true, tp, tl, tb⟩ (w2.alloc (.cells #[.bool true, .int .u64 tp, .int .u8 tl, .int .u8 tb] 27)) HE.out Hx.out (Bs.nil _ _) (by simp) hv hp (HK.out.tab 1)
      rw [show ([] : List Bool) ++ N = N from rfl] at hC
      have HP := Lib.hid hC
      clear hC
      go_wp2_with fail
      refine HP.out.mono ?_
      rintro e w3 ⟨A3, c3, rfl, o3, b3⟩
      have hbx := Ks.box (((HK.out.go b3).own_ o3).box #[.slice A3 (pack N).length c3, .int .i64 N.length] 24) #[.bool true, .int .u64 tp, .int .u8 tl, .int .u8 tb] 27
      simp only [World.size_alloc] at hbx
      replace HK := Lib.hid hbx
      have z3 := b3.size
      simp only [World.size_alloc] at z3
      clear b3 v0 v1 u0 u1 u2 u3 hbx o3 HP
      obtain ⟨⟨v0, v1⟩, -⟩ := (HK.out.blk 7).duo
      go_wp2_with fail
      refine (refCut_ok A c l m b bk _ (HK.out.bs 5) (by omega) Hs.out (by have := Hbk.out; omega) hbk).mono ?_
      rintro e w4 ⟨A4, c4, rfl, o4, b4⟩
      rw [show bk - b = k by have := Hbk.out; omega] at o4 ⊢
      rw [Hcut.out] at o4 ⊢
      replace HK := Lib.hid (((HK.out.go b4).own_ o4).box #[.slice A4 (pack N).length c4, .int .i64 k] 24)
      have z4 := b4.size
      simp only [World.size_alloc] at z4
      clear b4 v0 v1 o4
      obtain ⟨⟨f0, f1⟩, -⟩ := (HK.out.blk 0).duo
      obtain ⟨⟨u0, u1, u2, u3⟩, -⟩ := (HK.out.blk 2).quad
      obtain ⟨⟨v0, v1⟩, -⟩ := (HK.out.blk 3).duo
      obtain ⟨⟨y0, y1, y2, y3⟩, -⟩ := (HK.out.blk 5).quad
      go_wp2_with fail
      refine (refSame_any A3 A4 c3 c4 (pack N) (pack N) N.length k _ (HK.out.own 4).bs (HK.out.own 1).bs).mono ?_
      rintro e w5 ⟨rfl, b5⟩
      replace HK := Lib.hid (HK.out.go b5)
      clear f0 f1 u0 u1 u2 u3 v0 v1 y0 y1 y2 y3 b5
      obtain ⟨⟨y0, y1, y2, y3⟩, -⟩ := (HK.out.blk 5).quad
      have hq : (decide ((N.length : Int) = (k : Int)) && decide (pack N = pack N)) = true := by rw [HN.out]; simp
      rw [hq]
      go_wp2_with fail
      go_ret
      exact ⟨by simp, HK.out.top 8⟩

end Go.Proofs.YtgnppnjhecfjeaaDoor
