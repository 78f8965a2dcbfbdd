/- Joined: Xr14, Xr15, Xr17, Xr18, Xr19, Xr20, Chk1. -/
import Derived.Test.YtmcdollkmlcpbaaGreatDoorQ30
import Derived.Test.YtmcdollkmlcpbaaGreatDoorQ28
import Derived.Test.YtmcdollkmlcpbaaGreatDoorQ24
import Derived.Test.YtmcdollkmlcpbaaGreatDoorQ11
import Derived.Deep.RegionHeld3
import Derived.Test.YtmcdollkmlcpbaaGreatDoorQ2
import Derived.Test.YtmcdollkmlcpbaaGreatDoorQ10
import Derived.Test.YtmcdollkmlcpbaaGreatDoorQ9
import Derived.Test.YtmcdollkmlcpbaaGreatDoorQ7
set_option linter.unusedSimpArgs false
set_option linter.unusedVariables false
namespace Go.Proofs.YtmcdollkmlcpbaaGreatDoor
open Go.RowKit
theorem encode_any (h : Bool) (p l b v : Nat) (w : World) (hv : v < 18446744073709551616) (hp : p < 18446744073709551616) (hs : soundX ⟨h, p, l, b⟩ = true) (hT : Tab w) :
  Calls Tryz.prog 110 #[.agg #[.bool h, .int .u64 p, .int .u8 l, .int .u8 b], .int .u64 v] w fun e w' => EncOut (encX ⟨h, p, l, b⟩ v).1 (encX ⟨h, p, l, b⟩ v).2 w.heap.size e w' ∧ Below w.heap.size w w' := by
 unfold soundX at hs
 cases h
 ·simp at hs
  have := encode_first p l b v _ w hv hp (by omega) rfl
  unfold encX
  rw [if_pos rfl]
  exact this
 ·simp at hs
  unfold encX
  rw [if_neg (by simp)]
  by_cases h0 : v ^^^ p = 0
  ·rw [if_pos h0]
   exact encode_same p l b v _ w hv hp (by omega) rfl h0
  ·rw [if_neg h0]
   cases hh : holdsX l b (v ^^^ p)
   ·rw [if_neg (by decide)]
    exact encode_new p l b v _ w hv hp (by omega) rfl hT h0 hh
   ·rw [if_pos rfl]
    exact encode_old p l b v _ w hv hp (by omega) rfl h0 hh
theorem three_at (w : World) (b1 b2 b3 : Array Value) (t1 t2 t3 : TypeId) :
  Blk (((w.alloc (.cells b1 t1)).alloc (.cells b2 t2)).alloc (.cells b3 t3)) w.heap.size t1 b1 ∧ Blk (((w.alloc (.cells b1 t1)).alloc (.cells b2 t2)).alloc (.cells b3 t3)) (w.heap.size + 1) t2 b2 ∧
  Blk (((w.alloc (.cells b1 t1)).alloc (.cells b2 t2)).alloc (.cells b3 t3)) (w.heap.size + 2) t3 b3 ∧ Below w.heap.size w (((w.alloc (.cells b1 t1)).alloc (.cells b2 t2)).alloc (.cells b3 t3)) ∧ (((w.alloc (.cells b1 t1)).alloc (.cells b2 t2)).alloc (.cells b3 t3)).heap.size = w.heap.size + 3 := by
 have s1 : (w.alloc (.cells b1 t1)).heap.size = w.heap.size + 1 := by simp
 have s2 : ((w.alloc (.cells b1 t1)).alloc (.cells b2 t2)).heap.size = w.heap.size + 2 := by simp
 refine ⟨((Blk.new w _ _).alloc _).alloc _, ?_, ?_, ((below_alloc w _).alloc (by simp) _).alloc (by simp; omega) _, by simp⟩
 ·have := (Blk.new (w.alloc (.cells b1 t1)) t2 b2).alloc (.cells b3 t3)
  rwa [s1] at this
 ·have := Blk.new ((w.alloc (.cells b1 t1)).alloc (.cells b2 t2)) t3 b3
  rwa [s2] at this
theorem catE_two (l : List UInt8) (m : Nat) (M : List Bool) : catE [(l, (m : Int)), (pack M, (M.length : Int))] = bitl l m ++ M := by
 unfold catE
 simp [bits_pack]
theorem soundE_two {l : List UInt8} {m : Nat} (h : soundB l m = true) (M : List Bool) : soundE [(l, (m : Int)), (pack M, (M.length : Int))] = true := by
 unfold soundE
 simp [h, sound_pack]
set_option maxRecDepth 100000 in
set_option maxHeartbeats 1000000 in
theorem xput_any (A : Option Addr) (c : Nat) (l : List UInt8) (n : Int) (h : Bool) (p ld b v : Nat) (w : World) (hb : Bs w A l) (hn : -9223372036854775808 ≤ n ∧ n ≤ 9223372036854775807) (hl : l.length ≤ 100000)
  (hv : v < 18446744073709551616) (hp : p < 18446744073709551616) (hld : ld < 256) (hbb : b < 256) (hT : Tab w) :
  Calls Tryz.prog 93 #[.agg #[.slice A l.length c, .int .i64 n], .agg #[.bool h, .int .u64 p, .int .u8 ld, .int .u8 b], .int .u64 v] w fun e w' => PutOut (putX l n ⟨h, p, ld, b⟩ v) .u16 w.heap.size e w' ∧ Below w.heap.size w w' := by
 have F := four_new w #[.slice A l.length c, .int .i64 n] #[.bool h, .int .u64 p, .int .u8 ld, .int .u8 b] #[.slice none 0 0, .int .i64 0] #[.bool false, .int .u64 0, .int .u8 0, .int .u8 0] 33 86
 have hlm : l.length ≤ maxLen := by unfold maxLen; omega
 go_enter Tryz.func93, Tryz.ntmps93
 go_wp2_with fail
 have hb0 := hb.below F.t
 have HF := Lib.hid F
 clear F
 generalize (((w.alloc (.cells #[.slice A l.length c, .int .i64 n] 33)).alloc (.cells #[.bool h, .int .u64 p, .int .u8 ld, .int .u8 b] 86)).alloc (.cells #[.slice none 0 0, .int .i64 0] 33)).alloc (.cells #[.bool false, .int .u64 0, .int .u8 0, .int .u8 0] 86) = W at *
 refine (sound_any A c l n W hb0 hn hlm).mono ?_
 rintro e w1 ⟨rfl, b1⟩
 have HF1 := Lib.hid (HF.out.go b1)
 obtain ⟨⟨q0, q1, q2, q3⟩, g0, g1, g2, g3⟩ := HF1.out.h3.quad
 obtain ⟨⟨y0, y1⟩, x0, x1⟩ := HF1.out.h2.duo
 obtain ⟨⟨u0, u1, u2, u3⟩, -⟩ := HF1.out.h1.quad
 obtain ⟨⟨v0, v1⟩, -⟩ := HF1.out.h0.duo
 have a1 := hb0.below b1
 have HT := Lib.hid hT
 clear hT
 cases hs : soundB l n
 ·have Hs := Lib.hid hs
  clear hs
  go_wp2_with fail
  have FF := HF1.out.fin (.slice none 0 0) (.int .i64 0) (.bool false) (.int .u64 0) (.int .u8 0) (.int .u8 0)
  obtain ⟨⟨s0, s1, s2, s3⟩, -⟩ := FF.h3.quad
  obtain ⟨⟨r0, r1⟩, -⟩ := FF.h2.duo
  refine bodyPost_ret (v := .tuple #[.agg #[.slice none 0 0, .int .i64 0], .agg #[.bool false, .int .u64 0, .int .u8 0, .int .u8 0], .int .u16 11]) (by simp [results, Tryz.results93, go_sem, r0, r1, s0, s1, s2, s3]) rfl ⟨?_, FF.t⟩
  unfold putX
  rw [if_pos Hs.out]
  exact ⟨none, 0, 0, rfl, rfl, OwnB.nil _ _⟩
 ·have Hs := Lib.hid hs
  clear hs
  go_wp2_with fail
  refine (xsound_any h p ld b _ hld hbb).mono ?_
  rintro e w2 ⟨rfl, b2⟩
  have HF2 := Lib.hid (HF1.out.go b2)
  clear q0 q1 q2 q3 g0 g1 g2 g3 y0 y1 x0 x1 u0 u1 u2 u3 v0 v1
  obtain ⟨⟨q0, q1, q2, q3⟩, g0, g1, g2, g3⟩ := HF2.out.h3.quad
  obtain ⟨⟨y0, y1⟩, x0, x1⟩ := HF2.out.h2.duo
  obtain ⟨⟨u0, u1, u2, u3⟩, -⟩ := HF2.out.h1.quad
  obtain ⟨⟨v0, v1⟩, -⟩ := HF2.out.h0.duo
  have a2 := a1.below b2
  cases hx : soundX ⟨h, p, ld, b⟩
  ·have Hx := Lib.hid hx
   clear hx
   go_wp2_with fail
   have FF := HF2.out.fin (.slice none 0 0) (.int .i64 0) (.bool false) (.int .u64 0) (.int .u8 0) (.int .u8 0)
   obtain ⟨⟨s0, s1, s2, s3⟩, -⟩ := FF.h3.quad
   obtain ⟨⟨r0, r1⟩, -⟩ := FF.h2.duo
   refine bodyPost_ret (v := .tuple #[.agg #[.slice none 0 0, .int .i64 0], .agg #[.bool false, .int .u64 0, .int .u8 0, .int .u8 0], .int .u16 30]) (by simp [results, Tryz.results93, go_sem, r0, r1, s0, s1, s2, s3]) rfl ⟨?_, FF.t⟩
   unfold putX
   rw [if_neg (by rw [Hs.out]; decide), if_pos Hx.out]
   exact ⟨none, 0, 0, rfl, rfl, OwnB.nil _ _⟩
  ·obtain ⟨m, hm, hm8, -⟩ := sound_nat Hs.out
   have Hx := Lib.hid hx
   have HE := Lib.hid (encode_any h p ld b v w2 hv hp hx (tabGo HT.out HF2.out.t))
   clear hx
   subst hm
   go_wp2_with fail
   refine HE.out.mono ?_
   rintro e w3 ⟨HW, b3⟩
   obtain ⟨A3, n3, c3, hn3, rfl, o3⟩ := HW
   have hlen := enc_len (s := ⟨h, p, ld, b⟩) (v := v) Hx.out hp hv
   obtain ⟨M, th, tp, tl, tb, hMT⟩ : ∃ M th tp tl tb, encX ⟨h, p, ld, b⟩ v = (M, ⟨th, tp, tl, tb⟩) := ⟨_, _, _, _, _, rfl⟩
   simp only [hMT] at hn3 o3 hlen ⊢
   have HMT := Lib.hid hMT
   have HF3 := Lib.hid (HF2.out.go b3)
   clear q0 q1 q2 q3 g0 g1 g2 g3 y0 y1 x0 x1 u0 u1 u2 u3 v0 v1 hMT HE
   subst hn3
   have a3 := a2.below b3
   have HA3 := Lib.hid a3
   have HMl : Hid (M.length ≤ 77) := Lib.hid hlen.2
   clear hlen
   obtain ⟨⟨v0, v1⟩, -⟩ := HF3.out.h0.duo
   have kA := keepA
   have kF := keepF
   have Ho3 := Lib.hid o3
   clear o3
   go_wp2_with fail
   obtain ⟨b9, b10, b11, t34, s4⟩ := three_at w3 #[.slice A3 (pack M).length c3, .int .i64 M.length] #[.bool th, .int .u64 tp, .int .u8 tl, .int .u8 tb] #[.slice A l.length c, .int .i64 m, .slice A3 (pack M).length c3, .int .i64 M.length] 33 86 33
   obtain ⟨W4, hW4⟩ : ∃ W4, W4 = ((w3.alloc (.cells #[.slice A3 (pack M).length c3, .int .i64 M.length] 33)).alloc (.cells #[.bool th, .int .u64 tp, .int .u8 tl, .int .u8 tb] 86)).alloc (.cells #[.slice A l.length c, .int .i64 m, .slice A3 (pack M).length c3, .int .i64 M.length] 33) := ⟨_, rfl⟩
   rw [← hW4] at b9 b10 b11 t34 s4 ⊢
   have HBs : BsL W4 (some ⟨w3.heap.size + 2, 0, none⟩) [(l, (m : Int)), (pack M, (M.length : Int))] := fun i e hi => by
    match i, hi with
    | 0, hi =>
     simp at hi
     subst hi
     exact ⟨_, _, A, c, rfl, b11.cell 0, b11.cell 1, HA3.out.below t34, by simp only; omega⟩
    | 1, hi =>
     simp at hi
     subst hi
     exact ⟨_, _, A3, c3, rfl, b11.cell 2, b11.cell 3, (Ho3.out.below t34).bs, by simp only; have := HMl.out; omega⟩
    | i + 2, hi => simp at hi
   have hJ := join_ok (some ⟨w3.heap.size + 2, 0, none⟩) 2 [(l, (m : Int)), (pack M, (M.length : Int))] W4 HBs (soundE_two Hs.out M) (by simp) (by
    intro e he
    simp at he
    rcases he with rfl | rfl
    ·simp only; omega
    ·simp only; have := pack_le M HMl.out; omega)
   rw [catE_two] at hJ
   obtain ⟨BS, hBS⟩ : ∃ BS, BS = bitl l m ++ M := ⟨_, rfl⟩
   rw [← hBS] at hJ
   have HJ := Lib.hid hJ
   have HBS := Lib.hid hBS
   have HF4 := Lib.hid (HF3.out.go t34)
   have HX := Lib.hid b10
   have Hs4 := Lib.hid s4
   clear hJ hBS HBs b9 b10 b11 hW4 s4 kA kF v0 v1
   refine HJ.out.mono ?_
   rintro e w5 ⟨A5, c5, rfl, o5, b5⟩
   have HF5 := Lib.hid ((HF4.out.go b5).go (below_alloc w5 (.cells #[.slice A5 (pack BS).length c5, .int .i64 BS.length] 33)))
   have HX5 := Lib.hid ((HX.out.below b5 HX.out.lt).alloc (.cells #[.slice A5 (pack BS).length c5, .int .i64 BS.length] 33))
   have HY5 := Lib.hid (Blk.new w5 33 #[.slice A5 (pack BS).length c5, .int .i64 BS.length])
   have o6 := (o5.alloc (.cells #[.slice A5 (pack BS).length c5, .int .i64 BS.length] 33))
   go_wp2_with fail
   obtain ⟨W6, hW6⟩ : ∃ W6, W6 = w5.alloc (.cells #[.slice A5 (pack BS).length c5, .int .i64 BS.length] 33) := ⟨_, rfl⟩
   rw [← hW6] at HF5 HX5 HY5 o6 ⊢
   have z45 : w3.heap.size + 3 ≤ w5.heap.size := by have := b5.size; have := Hs4.out; omega
   have z3 := HF3.out.z
   obtain ⟨⟨m0, m1, m2, m3⟩, k0, k1, k2, k3⟩ := HF5.out.h3.quad
   obtain ⟨⟨y0, y1⟩, x0, x1⟩ := HF5.out.h2.duo
   have dq : W6.cell? ⟨w5.heap.size, 0, none⟩ = some (.slice A5 (pack BS).length c5) ∧ W6.cell? ⟨w5.heap.size, 1, none⟩ = some (.int .i64 BS.length) ∧ W6.cell? ⟨w3.heap.size + 1, 0, none⟩ = some (.bool th) ∧ W6.cell? ⟨w3.heap.size + 1, 1, none⟩ = some (.int .u64 tp) ∧ W6.cell? ⟨w3.heap.size + 1, 2, none⟩ = some (.int .u8 tl) ∧ W6.cell? ⟨w3.heap.size + 1, 3, none⟩ = some (.int .u8 tb) :=
    ⟨HY5.out.cell 0, HY5.out.cell 1, HX5.out.cell 0, HX5.out.cell 1, HX5.out.cell 2, HX5.out.cell 3⟩
   have nf1 := fun (W : World) (i j : Nat) (u : Value) => World.cell?_setCell_far W ⟨w.heap.size + 1 + 1, i, none⟩ ⟨w5.heap.size, j, none⟩ u (by simp; omega)
   have nf2 := fun (W : World) (i j : Nat) (u : Value) => World.cell?_setCell_far W ⟨w.heap.size + 1 + 1, i, none⟩ ⟨w3.heap.size + 1, j, none⟩ u (by simp; omega)
   have nf3 := fun (W : World) (i j : Nat) (u : Value) => World.cell?_setCell_far W ⟨w.heap.size + 1 + 1 + 1, i, none⟩ ⟨w5.heap.size, j, none⟩ u (by simp; omega)
   have nf4 := fun (W : World) (i j : Nat) (u : Value) => World.cell?_setCell_far W ⟨w.heap.size + 1 + 1 + 1, i, none⟩ ⟨w3.heap.size + 1, j, none⟩ u (by simp; omega)
   have ndr : ∀ (W : World) (a : Addr), W.drew.cell? a = W.cell? a := fun _ _ => rfl
   clear hW6 z45 z3
   go_region_held3 (fun w' => w'.cell? ⟨w5.heap.size, 0, none⟩ = some (.slice A5 (pack BS).length c5) ∧ w'.cell? ⟨w5.heap.size, 1, none⟩ = some (.int .i64 BS.length) ∧ w'.cell? ⟨w3.heap.size + 1, 0, none⟩ = some (.bool th) ∧ w'.cell? ⟨w3.heap.size + 1, 1, none⟩ = some (.int .u64 tp) ∧ w'.cell? ⟨w3.heap.size + 1, 2, none⟩ = some (.int .u8 tl) ∧ w'.cell? ⟨w3.heap.size + 1, 3, none⟩ = some (.int .u8 tb)) (first | (simp only [ndr]; with_reducible exact dq) | (simp only [ndr, nf1, nf2, nf3, nf4]; with_reducible exact dq)) (fail)
   go_wp2_with fail
   have FF := HF5.out.fin (.slice A5 (pack BS).length c5) (.int .i64 BS.length) (.bool th) (.int .u64 tp) (.int .u8 tl) (.int .u8 tb)
   obtain ⟨⟨s0, s1, s2, s3⟩, -⟩ := FF.h3.quad
   obtain ⟨⟨z0, z1⟩, -⟩ := FF.h2.duo
   have he : putX l m ⟨h, p, ld, b⟩ v = (pack BS, BS.length, ⟨th, tp, tl, tb⟩, 0) := by
    unfold putX
    rw [if_neg (by rw [Hs.out]; decide), if_neg (by rw [Hx.out]; decide), HMT.out, Int.toNat_natCast, ← HBS.out]
   rw [he]
   refine bodyPost_ret (v := .tuple #[.agg #[.slice A5 (pack BS).length c5, .int .i64 BS.length], .agg #[.bool th, .int .u64 tp, .int .u8 tl, .int .u8 tb], .int .u16 0]) (by simp [results, Tryz.results93, go_sem, z0, z1, s0, s1, s2, s3]) rfl ⟨⟨A5, _, c5, rfl, rfl, (o6.fin HF4.out.z (.slice A5 (pack BS).length c5) (.int .i64 BS.length) (.bool th) (.int .u64 tp) (.int .u8 tl) (.int .u8 tb)).drew⟩, FF.t.drew⟩
end Go.Proofs.YtmcdollkmlcpbaaGreatDoor
namespace Go.Proofs.YtmcdollkmlcpbaaGreatDoor
open Go.RowKit
theorem xput_M (A : Option Addr) (c : Nat) (M N : List Bool) (h : Bool) (p l b v : Nat) (T : XV) (w : World) (hE : encX ⟨h, p, l, b⟩ v = (N, T)) (hs : soundX ⟨h, p, l, b⟩ = true) (hb : Bs w A (pack M)) (hM : M.length ≤ 500000) (hv : v < 18446744073709551616) (hp : p < 18446744073709551616) (hT : Tab w) :
  Calls Tryz.prog 93 #[.agg #[.slice A (pack M).length c, .int .i64 M.length], .agg #[.bool h, .int .u64 p, .int .u8 l, .int .u8 b], .int .u64 v] w fun e w' =>
   ∃ A' c', e = .returned (.tuple #[.agg #[.slice A' (pack (M ++ N)).length c', .int .i64 ((M ++ N).length : Nat)], .agg #[.bool T.has, .int .u64 (T.prev : Nat), .int .u8 (T.lead : Nat), .int .u8 (T.width : Nat)], .int .u16 0]) ∧ OwnB w' w.heap.size (.slice A' (pack (M ++ N)).length c') (pack (M ++ N)) ∧ Below w.heap.size w w' := by
 have hlb : l < 256 ∧ b < 256 := by
  unfold soundX at hs
  cases h <;> simp at hs <;> omega
 refine (xput_any A c (pack M) M.length h p l b v w hb (by omega) (by rw [pack_length]; unfold nb; omega) hv hp hlb.1 hlb.2 hT).mono ?_
 rintro e w' ⟨⟨A', n', c', rfl, rfl, ho⟩, hB⟩
 have he : putX (pack M) M.length ⟨h, p, l, b⟩ v = (pack (M ++ N), (M ++ N).length, T, 0) := by
  unfold putX
  rw [if_neg (by rw [sound_pack]; decide), if_neg (by rw [hs]; decide), Int.toNat_natCast, bits_pack, hE]
 rw [he] at ho ⊢
 exact ⟨A', c', rfl, ho, hB⟩
end Go.Proofs.YtmcdollkmlcpbaaGreatDoor
namespace Go.Proofs.YtmcdollkmlcpbaaGreatDoor
open Go.RowKit
def DecOut (D : Nat × Nat × Nat × Nat × Nat) (a : Nat) (e : Ending) : Prop :=
 ∃ (d : Nat) (nx : Int) (bl bw c : Nat), e = .returned (.tuple #[.int .u64 d, .int .i64 nx, .agg #[.int .i64 bl, .int .i64 bw], .int .u16 c]) ∧ c = D.2.2.2.2 ∧
  (c = 0 → d = D.1 ∧ nx = ((a + D.2.1 : Nat) : Int) ∧ bl = D.2.2.1 ∧ bw = D.2.2.2.1)
set_option maxRecDepth 100000 in
set_option maxHeartbeats 1000000 in
theorem decodeOld_any (A : Option Addr) (c : Nat) (l : List UInt8) (m a L X : Nat) (w : World) (hb : Bs w A l) (hs : soundB l (m : Int) = true) (hl : l.length ≤ 100000) (ha : a ≤ m) (hm : m ≤ 800000) (hLW : L + X ≤ 64) :
  Calls Tryz.prog 116 #[.agg #[.slice A l.length c, .int .i64 m], .int .i64 a, .agg #[.int .i64 L, .int .i64 X]] w fun e w' => DecOut (oldD L X ((bitl l m).drop a)) a e ∧ Below w.heap.size w w' := by
 obtain ⟨g1, g2, hG, hg1, hg2, hc, hok⟩ := old_facts (L := L) (W := X) hs ha hLW
 obtain ⟨D, hD⟩ : ∃ D, D = oldD L X ((bitl l m).drop a) := ⟨_, rfl⟩
 rw [← hD] at hc hok ⊢
 clear hD
 obtain ⟨d0, d1, d2, t0, z0⟩ := three_at w #[.slice A l.length c, .int .i64 m] #[.int .i64 L, .int .i64 X] #[.int .i64 0, .int .i64 0] 33 176 176
 have hsh := shl_lt hg1 hLW
 obtain ⟨s0, hs0⟩ : ∃ s0 : Nat, s0 = 64 - L - X := ⟨_, rfl⟩
 rw [← hs0] at hsh hok
 have hs0' : (64 : Int) - L - X = s0 := by omega
 have j4 : min s0 64 = s0 := by omega
 obtain ⟨dd, hdd⟩ : ∃ dd : Nat, dd = g1 * 2 ^ s0 := ⟨_, rfl⟩
 rw [← hdd] at hsh hok
 have f1 : IntKind.u64.wrap ((g1 : Int) * 2 ^ s0) = (dd : Int) := by
  have e : ((g1 : Int) * 2 ^ s0) = (dd : Int) := by rw [hdd]; simp
  rw [e, IntKind.wrap_u64]; omega
 have f2 : IntKind.i64.wrap ((a : Int) + X) = (a : Int) + X := by rw [IntKind.wrap_i64]; omega
 go_enter Tryz.func116, Tryz.ntmps116
 go_wp2_with fail
 generalize (((w.alloc (.cells #[.slice A l.length c, .int .i64 m] 33)).alloc (.cells #[.int .i64 L, .int .i64 X] 176)).alloc (.cells #[.int .i64 0, .int .i64 0] 176)) = W0 at *
 have h := get_any A c l m a X W0 (hb.below t0) (by omega) (by omega) (by omega) (by omega)
 rw [hG] at h
 have HG := Lib.hid h
 have HS0' := Lib.hid hs0'
 have Hok := Lib.hid hok
 have Hc := Lib.hid hc
 clear h hG hs0' hok hc hdd hs0 hs
 refine HG.out.mono ?_
 rintro e w1 ⟨rfl, b1⟩
 have t1 := on1 t0 b1
 have HL := Lib.hid (d1.below b1 d1.lt)
 have HR := Lib.hid (d2.below b1 d2.lt)
 have Z1 : w.heap.size + 3 ≤ w1.heap.size := by have := b1.size; omega
 clear HG b1 d0 d1 d2 t0 z0 hb
 obtain ⟨dq0, dq1⟩ := HL.out.duo.1
 obtain ⟨⟨r0, r1⟩, r2, r3⟩ := HR.out.duo
 have dq : w1.cell? ⟨w.heap.size + 1, 0, none⟩ = some (.int .i64 L) ∧ w1.cell? ⟨w.heap.size + 1, 1, none⟩ = some (.int .i64 X) := ⟨dq0, dq1⟩
 have ndr : ∀ (W : World) (a : Addr), W.drew.cell? a = W.cell? a := fun _ _ => rfl
 have nf1 := fun (W : World) (i j : Nat) (u : Value) => World.cell?_setCell_far W ⟨w.heap.size + 1 + 1, i, none⟩ ⟨w.heap.size + 1, j, none⟩ u (by simp)
 have H14 : Hid (∀ w4, Below (w1.drew).heap.size (w1.drew) w4 → Below w1.heap.size w1 w4) := Lib.hid fun w4 h => (Below.refl _ _).drew.trans h
 obtain ⟨cc, hcc⟩ : ∃ cc : Nat, cc = (if g2 = 0 ∧ g1 = 0 then 30 else g2) := ⟨_, rfl⟩
 have c3 : (((g2 : Int) == 0) = true ∧ ((g1 : Int) == 0) = true ∧ cc = 30) ∨ (((g2 : Int) == 0) = true ∧ ((g1 : Int) == 0) = false ∧ cc = g2) ∨ (((g2 : Int) == 0) = false ∧ cc = g2) := by
  by_cases h2 : g2 = 0
  ·by_cases h1 : g1 = 0
   ·exact Or.inl ⟨by rw [h2]; rfl, by rw [h1]; rfl, by rw [hcc, if_pos ⟨h2, h1⟩]⟩
   ·exact Or.inr (Or.inl ⟨by rw [h2]; rfl, beq_eq_false_iff_ne.2 (by omega), by rw [hcc, if_neg (fun h => h1 h.2)]⟩)
  ·exact Or.inr (Or.inr ⟨beq_eq_false_iff_ne.2 (by omega), by rw [hcc, if_neg (fun h => h2 h.1)]⟩)
 have Hcc := Lib.hid hcc
 clear hcc
 rcases c3 with ⟨k1, k2, k3⟩ | ⟨k1, k2, k3⟩ | ⟨k1, k3⟩
 all_goals
  have K3 := Lib.hid k3
  clear k3
  go_wp2_with fail
  go_region_held3 (fun w' => w'.cell? ⟨w.heap.size + 1, 0, none⟩ = some (.int .i64 L) ∧ w'.cell? ⟨w.heap.size + 1, 1, none⟩ = some (.int .i64 X)) (first | with_reducible exact dq | with_reducible exact rr | (simp only [ndr]; with_reducible exact dq) | (simp only [nf1]; with_reducible exact rr) | (simp only [ndr, nf1]; with_reducible exact rr))
   ((go_at_call 115; refine (behind_any L X _ (by omega) (by omega)).mono ?_; rintro e w4 ⟨rfl, b4⟩; have b14 := H14.out w4 b4; have HL4 := Lib.hid (HL.out.below b14 HL.out.lt); have HR4 := Lib.hid (HR.out.below b14 HR.out.lt); have rr := HL4.out.duo.1; obtain ⟨⟨y0, y1⟩, x0, x1⟩ := HR4.out.duo; rw [HS0'.out]))
  go_wp2_with fail
 all_goals
  have FR : Blk _ (w.heap.size + 1 + 1) 176 #[.int .i64 L, .int .i64 X] := HR4.out.set2 (.int .i64 L) (.int .i64 X)
  obtain ⟨⟨v0, v1⟩, -⟩ := FR.duo
  have TF := ((on1 t1 b14).setCell (p := ⟨w.heap.size + 1 + 1, 0, none⟩) (by simp; omega) (.int .i64 L)).setCell (p := ⟨w.heap.size + 1 + 1, 1, none⟩) (by simp; omega) (.int .i64 X)
  have HF : Hid (cc = 0 → dd = D.1 ∧ (a : Int) + X = ((a + D.2.1 : Nat) : Int) ∧ L = D.2.2.1 ∧ X = D.2.2.2.1) := Lib.hid fun h => by
   obtain ⟨e1, e2, e3, e4⟩ := Hok.out (by rw [Hc.out, ← Hcc.out]; exact h)
   exact ⟨e1, by rw [e2]; simp, e3.symm, e4.symm⟩
 ·skip
  refine bodyPost_ret (v := .tuple #[.int .u64 dd, .int .i64 ((a : Int) + X), .agg #[.int .i64 L, .int .i64 X], .int .u16 30]) (by simp [results, Tryz.results116, go_sem, v0, v1]) rfl ⟨⟨dd, (a : Int) + X, L, X, cc, by rw [K3.out]; rfl, Hcc.out.trans Hc.out.symm, HF.out⟩, TF⟩
 ·skip
  refine bodyPost_ret (v := .tuple #[.int .u64 dd, .int .i64 ((a : Int) + X), .agg #[.int .i64 L, .int .i64 X], .int .u16 g2]) (by simp [results, Tryz.results116, go_sem, v0, v1]) rfl ⟨⟨dd, (a : Int) + X, L, X, cc, by rw [K3.out], Hcc.out.trans Hc.out.symm, HF.out⟩, TF⟩
 ·skip
  refine bodyPost_ret (v := .tuple #[.int .u64 dd, .int .i64 ((a : Int) + X), .agg #[.int .i64 L, .int .i64 X], .int .u16 g2]) (by simp [results, Tryz.results116, go_sem, v0, v1]) rfl ⟨⟨dd, (a : Int) + X, L, X, cc, by rw [K3.out], Hcc.out.trans Hc.out.symm, HF.out⟩, TF⟩
end Go.Proofs.YtmcdollkmlcpbaaGreatDoor
namespace Go.Proofs.YtmcdollkmlcpbaaGreatDoor
open Go.RowKit
theorem mask6 (L : Nat) (hL : L < 18446744073709551616) : bits .and .u64 (L : Int) 63 = ((L % 64 : Nat) : Int) := by
 have h := bits_mask .u64 64 (by decide) (fun n h0 h1 => by have := wrap_big n.toNat (by omega); rwa [Int.toNat_of_nonneg h0] at this) 6 (by decide) (L : Int) (by omega) (by omega)
 rw [show ((2 : Int) ^ 6 - 1) = 63 from rfl] at h
 rw [h]; omega
set_option maxRecDepth 100000 in
set_option maxHeartbeats 1000000 in
theorem decodeNew_any (A : Option Addr) (c : Nat) (l : List UInt8) (m a L X : Nat) (w : World) (hb : Bs w A l) (hs : soundB l (m : Int) = true) (hl : l.length ≤ 100000) (ha : a ≤ m) (hm : m ≤ 800000) (hLW : L + X ≤ 64) (hT : Tab w) :
  Calls Tryz.prog 117 #[.agg #[.slice A l.length c, .int .i64 m], .int .i64 a, .agg #[.int .i64 L, .int .i64 X]] w fun e w' => DecOut (newD L X ((bitl l m).drop a)) a e ∧ Below w.heap.size w w' := by
 obtain ⟨g1, g2, hG, hc⟩ := new_facts (L := L) (W := X) hs ha
 obtain ⟨D, hD⟩ : ∃ D, D = newD L X ((bitl l m).drop a) := ⟨_, rfl⟩
 rw [← hD] at hc ⊢
 clear hD
 obtain ⟨d0, d1, d2, t0, z0⟩ := three_at w #[.slice A l.length c, .int .i64 m] #[.int .i64 L, .int .i64 X] #[.int .i64 0, .int .i64 0] 33 176 176
 go_enter Tryz.func117, Tryz.ntmps117
 go_wp2_with fail
 generalize (((w.alloc (.cells #[.slice A l.length c, .int .i64 m] 33)).alloc (.cells #[.int .i64 L, .int .i64 X] 176)).alloc (.cells #[.int .i64 0, .int .i64 0] 176)) = W0 at *
 have h := get_any A c l m a 11 W0 (hb.below t0) (by omega) (by omega) (by omega) (by omega)
 rw [hG] at h
 have HG := Lib.hid h
 have HC := Lib.hid hc
 have HT := Lib.hid (tabGo hT t0)
 clear h hG hc hT
 refine HG.out.mono ?_
 rintro e w1 ⟨rfl, b1⟩
 have t1 := on1 t0 b1
 have HA := Lib.hid (d0.below b1 d0.lt)
 have HL := Lib.hid (d1.below b1 d1.lt)
 have HR := Lib.hid (d2.below b1 d2.lt)
 have HT1 := Lib.hid (tabGo HT.out b1)
 have hb1 := Lib.hid ((hb.below t0).below b1)
 have Z1 : w.heap.size + 3 ≤ w1.heap.size := by have := b1.size; omega
 clear HG b1 d0 d1 d2 t0 z0 hb HT
 obtain ⟨⟨r0, r1⟩, r2, r3⟩ := HR.out.duo
 rcases HC.out with ⟨h2, h1, hD⟩ | ⟨h2, h1, ha11, hc⟩
 ·have HD := Lib.hid hD
  clear hD
  subst h1 h2
  go_wp2_with fail
  have FR : Blk _ (w.heap.size + 1 + 1) 176 #[.int .i64 0, .int .i64 0] := HR.out.set2 (.int .i64 0) (.int .i64 0)
  obtain ⟨⟨v0, v1⟩, -⟩ := FR.duo
  have TF := (t1.setCell (p := ⟨w.heap.size + 1 + 1, 0, none⟩) (by simp; omega) (.int .i64 0)).setCell (p := ⟨w.heap.size + 1 + 1, 1, none⟩) (by simp; omega) (.int .i64 0)
  refine bodyPost_ret (v := .tuple #[.int .u64 0, .int .i64 0, .agg #[.int .i64 0, .int .i64 0], .int .u16 10]) (by simp [results, Tryz.results117, go_sem, v0, v1]) rfl ⟨⟨0, 0, 0, 0, 10, rfl, by rw [HD.out], fun h => by cases h⟩, TF⟩
 ·have Hc := Lib.hid hc
  have Ha11 := Lib.hid ha11
  clear hc ha11 HC
  subst h2
  obtain ⟨p, hp⟩ : ∃ p : Nat, p = g1 / 64 := ⟨_, rfl⟩
  obtain ⟨q, hq⟩ : ∃ q : Nat, q = g1 % 64 := ⟨_, rfl⟩
  obtain ⟨x, hx⟩ : ∃ x : Nat, x = q + 1 := ⟨_, rfl⟩
  have p1 : p < 32 := by omega
  have q1 : q < 64 := by omega
  have x1 : x ≤ 64 := by omega
  have f1 : (g1 : Int) / 64 = (p : Int) := by omega
  have f2 : bits .and .u64 (g1 : Int) 63 = (q : Int) := by rw [hq]; exact mask6 g1 (by omega)
  have f3 : IntKind.i64.wrap (q : Int) = (q : Int) := by rw [IntKind.wrap_i64]; omega
  have f4 : IntKind.i64.wrap ((q : Int) + 1) = (x : Int) := by rw [IntKind.wrap_i64]; omega
  have hc := Hc.out
  rw [← hp, ← hq, ← hx] at hc
  have Hc2 := Lib.hid hc
  have Hx := Lib.hid hx
  have Hp := Lib.hid hp
  have Hq := Lib.hid hq
  clear hc Hc hp hq hx
  go_wp2_with fail
  have eB := below_alloc w1 (.cells #[.int .i64 p, .int .i64 x] 176)
  have HB := Lib.hid (Blk.new w1 176 #[.int .i64 p, .int .i64 x])
  refine (behind_any p x _ (by omega) (by omega)).mono ?_
  rintro e w2 ⟨rfl, b2⟩
  have b12 := on1 eB b2
  have t2 := on1 t1 b12
  have HA2 := Lib.hid (HA.out.below b12 HA.out.lt)
  have HL2 := Lib.hid (HL.out.below b12 HL.out.lt)
  have HR2 := Lib.hid (HR.out.below b12 HR.out.lt)
  have HB2 := Lib.hid (HB.out.below b2 HB.out.lt)
  have HT2 := Lib.hid (tabGo HT1.out b12)
  have hb2 := Lib.hid (hb1.out.below b12)
  have Z2 : w.heap.size + 3 ≤ w2.heap.size := by have := b12.size; omega
  clear eB b2 b12 HA HL HR HB HT1 hb1 r0 r1 r2 r3 t1
  obtain ⟨⟨r0, r1⟩, r2, r3⟩ := HR2.out.duo
  obtain ⟨⟨y0, y1⟩, -⟩ := HB2.out.duo
  obtain ⟨⟨u0, u1⟩, -⟩ := HA2.out.duo
  rcases Hc2.out with ⟨h64, hD⟩ | ⟨h64, hc⟩
  ·have HD := Lib.hid hD
   have k1 : (64 : Int) - p - x < 0 := by omega
   clear hD h64
   go_wp2_with fail
   have FR : Blk _ (w.heap.size + 1 + 1) 176 #[.int .i64 0, .int .i64 0] := HR2.out.set2 (.int .i64 0) (.int .i64 0)
   obtain ⟨⟨v0, v1⟩, -⟩ := FR.duo
   have TF := (t2.setCell (p := ⟨w.heap.size + 1 + 1, 0, none⟩) (by simp; omega) (.int .i64 0)).setCell (p := ⟨w.heap.size + 1 + 1, 1, none⟩) (by simp; omega) (.int .i64 0)
   refine bodyPost_ret (v := .tuple #[.int .u64 0, .int .i64 0, .agg #[.int .i64 0, .int .i64 0], .int .u16 30]) (by simp [results, Tryz.results117, go_sem, v0, v1]) rfl ⟨⟨0, 0, 0, 0, 30, rfl, by rw [HD.out], fun h => by cases h⟩, TF⟩
  ·obtain ⟨s0, hs0⟩ : ∃ s0 : Nat, s0 = 64 - p - x := ⟨_, rfl⟩
   have hs0' : (64 : Int) - p - x = s0 := by omega
   have f5 : IntKind.i64.wrap ((a : Int) + 11) = ((a + 11 : Nat) : Int) := by rw [IntKind.wrap_i64]; omega
   obtain ⟨a11, ha11⟩ : ∃ a11 : Nat, a11 = a + 11 := ⟨_, rfl⟩
   rw [← ha11] at f5
   have Ha := Ha11.out
   obtain ⟨n1, n2, hG, hn1, hc⟩ := hc
   rw [← hs0] at hc
   rw [← ha11] at hG
   have h := get_any A c l m a11 x w2 hb2.out (by omega) (by omega) (by omega) (by omega)
   rw [hG] at h
   have HG := Lib.hid h
   have Hc3 := Lib.hid hc
   have Ha' := Lib.hid ha11
   have Hn1 := Lib.hid hn1
   have Hs0 := Lib.hid hs0
   rw [hs0']
   have HS0' := Lib.hid hs0'
   clear hG hc h ha11 Ha hn1 hs0
   go_wp2_with fail
   refine HG.out.mono ?_
   rintro e w3 ⟨rfl, b3⟩
   have t3 := on1 t2 b3
   have HL3 := Lib.hid (HL2.out.below b3 HL2.out.lt)
   have HR3 := Lib.hid (HR2.out.below b3 HR2.out.lt)
   have HB3 := Lib.hid (HB2.out.below b3 HB2.out.lt)
   have HT3 := Lib.hid (tabGo HT2.out b3)
   have Z3 : w.heap.size + 3 ≤ w3.heap.size := by have := b3.size; omega
   clear HG b3 HA2 HL2 HR2 HB2 HT2 hb2 r0 r1 r2 r3 y0 y1 u0 u1 t2
   obtain ⟨⟨y0, y1⟩, -⟩ := HB3.out.duo
   have hsh := shl_lt (g := n1) (W := x) (L := p) Hn1.out (by omega)
   rw [← Hs0.out] at hsh
   obtain ⟨d, hd⟩ : ∃ d : Nat, d = n1 * 2 ^ s0 := ⟨_, rfl⟩
   rw [← hd] at hsh
   have f6 : IntKind.u64.wrap ((n1 : Int) * 2 ^ s0) = (d : Int) := by
    have e : ((n1 : Int) * 2 ^ s0) = (d : Int) := by rw [hd]; simp
    rw [e, IntKind.wrap_u64]; omega
   have j4 : min s0 64 = s0 := by have := Hs0.out; omega
   have hc := Hc3.out
   rw [← hd] at hc
   have Hc4 := Lib.hid hc
   have Hsh := Lib.hid hsh
   clear hc Hc3 hd hsh hs0'
   go_wp2_with fail
   refine (behind_any p x _ (by omega) (by omega)).mono ?_
   rintro e w4 ⟨rfl, b4⟩
   have t4 := on1 t3 b4
   have HL4 := Lib.hid (HL3.out.below b4 HL3.out.lt)
   have HR4 := Lib.hid (HR3.out.below b4 HR3.out.lt)
   have HB4 := Lib.hid (HB3.out.below b4 HB3.out.lt)
   have HT4 := Lib.hid (tabGo HT3.out b4)
   have Z4 : w.heap.size + 3 ≤ w4.heap.size := by have := b4.size; omega
   clear b4 HL3 HR3 HB3 HT3 y0 y1 t3 Z2 Z3
   obtain ⟨⟨y0, y1⟩, -⟩ := HB4.out.duo
   obtain ⟨⟨l0, l1⟩, -⟩ := HL4.out.duo
   obtain ⟨⟨r0, r1⟩, r2, r3⟩ := HR4.out.duo
   rw [HS0'.out]
   go_wp2_with fail
   have hp := plus_cell w4
   rcases Hc4.out with ⟨h2, h1, hD⟩ | ⟨h2, hc⟩
   ·have k1 : ((n2 : Int) == 0) = false := by rw [h2]; rfl
    have HD := Lib.hid hD
    clear hD
    refine wp_region_tail_ext 10 (by kernel_rfl) (by kernel_rfl) ?_
    simp only [List.take_succ_cons, List.take_zero, List.drop_succ_cons, List.drop_zero]
    repeat (go_big_quiet_step (fail))
    refine wpQuiet_nil ?_
    rintro w5 ⟨z, rfl⟩
    have hz := plus_below w4 z
    have HL5 := Lib.hid (HL4.out.below hz HL4.out.lt)
    have HR5 := Lib.hid (HR4.out.below hz HR4.out.lt)
    have HB5 := Lib.hid (HB4.out.below hz HB4.out.lt)
    have t5 := on1 t4 hz
    clear hp
    obtain ⟨b0, b1⟩ := HB5.out.duo.1
    obtain ⟨⟨o0, o1⟩, o2, o3⟩ := HR5.out.duo
    have dq : (plus w4 z).cell? ⟨w1.heap.size, 0, none⟩ = some (.int .i64 p) ∧ (plus w4 z).cell? ⟨w1.heap.size, 1, none⟩ = some (.int .i64 x) := ⟨b0, b1⟩
    have ndr : ∀ (W : World) (a : Addr), W.drew.cell? a = W.cell? a := fun _ _ => rfl
    have nf1 := fun (W : World) (i j : Nat) (u : Value) => World.cell?_setCell_far W ⟨w.heap.size + 1 + 1, i, none⟩ ⟨w1.heap.size, j, none⟩ u (by simp; omega)
    have f7 : IntKind.i64.wrap ((a11 : Int) + x) = (a11 : Int) + x := by rw [IntKind.wrap_i64]; have := Ha'.out; omega
    go_wp2_with fail
    go_region_held3 (fun w' => w'.cell? ⟨w1.heap.size, 0, none⟩ = some (.int .i64 p) ∧ w'.cell? ⟨w1.heap.size, 1, none⟩ = some (.int .i64 x)) (first | with_reducible exact dq | (simp only [ndr]; with_reducible exact dq) | (simp only [nf1]; with_reducible exact dq) | (simp only [ndr, nf1]; with_reducible exact dq)) (fail)
    go_wp2_with fail
    have FR : Blk _ (w.heap.size + 1 + 1) 176 #[.int .i64 p, .int .i64 x] := HR5.out.set2 (.int .i64 p) (.int .i64 x)
    obtain ⟨⟨v0, v1⟩, -⟩ := FR.duo
    have TF := (t5.setCell (p := ⟨w.heap.size + 1 + 1, 0, none⟩) (by simp; omega) (.int .i64 p)).setCell (p := ⟨w.heap.size + 1 + 1, 1, none⟩) (by simp; omega) (.int .i64 x)
    refine bodyPost_ret (v := .tuple #[.int .u64 d, .int .i64 ((a11 : Int) + x), .agg #[.int .i64 p, .int .i64 x], .int .u16 10]) (by simp [results, Tryz.results117, go_sem, v0, v1]) rfl ⟨⟨d, (a11 : Int) + x, p, x, 10, rfl, by rw [HD.out], fun h => by cases h⟩, TF.drew⟩
   ·have k1 : ((n2 : Int) == 0) = true := by rw [h2]; rfl
    rcases hc with ⟨hh, hD⟩ | ⟨hh, hc⟩
    ·have HD := Lib.hid hD
     have hH : ∀ z : More, Calls Tryz.prog 121 #[.agg #[.int .i64 L, .int .i64 X], .int .u64 d] (plus w4 z) fun e w'' => e = .returned (.bool true) ∧ ∃ x', w'' = plus w4 x' := fun z => by
      have h := holds_any L X d (plus w4 z) hLW Hsh.out
      rw [hh] at h
      exact ext_of h
     have HH := Lib.hid hH
     clear hD hH hh h2
     refine wp_region_tail_ext 10 (by kernel_rfl) (by kernel_rfl) ?_
     simp only [List.take_succ_cons, List.take_zero, List.drop_succ_cons, List.drop_zero]
     repeat (go_big_quiet_step ((go_at_call 121; exact HH.out _)))
     refine wpQuiet_nil ?_
     rintro w5 ⟨z, rfl⟩
     have hz := plus_below w4 z
     have HL5 := Lib.hid (HL4.out.below hz HL4.out.lt)
     have HR5 := Lib.hid (HR4.out.below hz HR4.out.lt)
     have HB5 := Lib.hid (HB4.out.below hz HB4.out.lt)
     have t5 := on1 t4 hz
     clear hp
     obtain ⟨b0, b1⟩ := HB5.out.duo.1
     obtain ⟨⟨o0, o1⟩, o2, o3⟩ := HR5.out.duo
     have dq : (plus w4 z).cell? ⟨w1.heap.size, 0, none⟩ = some (.int .i64 p) ∧ (plus w4 z).cell? ⟨w1.heap.size, 1, none⟩ = some (.int .i64 x) := ⟨b0, b1⟩
     have ndr : ∀ (W : World) (a : Addr), W.drew.cell? a = W.cell? a := fun _ _ => rfl
     have nf1 := fun (W : World) (i j : Nat) (u : Value) => World.cell?_setCell_far W ⟨w.heap.size + 1 + 1, i, none⟩ ⟨w1.heap.size, j, none⟩ u (by simp; omega)
     have f7 : IntKind.i64.wrap ((a11 : Int) + x) = (a11 : Int) + x := by rw [IntKind.wrap_i64]; have := Ha'.out; omega
     go_wp2_with fail
     go_region_held3 (fun w' => w'.cell? ⟨w1.heap.size, 0, none⟩ = some (.int .i64 p) ∧ w'.cell? ⟨w1.heap.size, 1, none⟩ = some (.int .i64 x)) (first | with_reducible exact dq | (simp only [ndr]; with_reducible exact dq) | (simp only [nf1]; with_reducible exact dq) | (simp only [ndr, nf1]; with_reducible exact dq)) (fail)
     go_wp2_with fail
     have FR : Blk _ (w.heap.size + 1 + 1) 176 #[.int .i64 p, .int .i64 x] := HR5.out.set2 (.int .i64 p) (.int .i64 x)
     obtain ⟨⟨v0, v1⟩, -⟩ := FR.duo
     have TF := (t5.setCell (p := ⟨w.heap.size + 1 + 1, 0, none⟩) (by simp; omega) (.int .i64 p)).setCell (p := ⟨w.heap.size + 1 + 1, 1, none⟩) (by simp; omega) (.int .i64 x)
     refine bodyPost_ret (v := .tuple #[.int .u64 d, .int .i64 ((a11 : Int) + x), .agg #[.int .i64 p, .int .i64 x], .int .u16 30]) (by simp [results, Tryz.results117, go_sem, v0, v1]) rfl ⟨⟨d, (a11 : Int) + x, p, x, 30, rfl, by rw [HD.out], fun h => by cases h⟩, TF.drew⟩
    ·have hd0 : d ≠ 0 := fun e => by
      rw [e] at hh
      unfold holdsX at hh
      simp at hh
     have hH : ∀ z : More, Calls Tryz.prog 121 #[.agg #[.int .i64 L, .int .i64 X], .int .u64 d] (plus w4 z) fun e w'' => e = .returned (.bool false) ∧ ∃ x', w'' = plus w4 x' := fun z => by
      have h := holds_any L X d (plus w4 z) hLW Hsh.out
      rw [hh] at h
      exact ext_of h
     have HH := Lib.hid hH
     have hN := fun z : More => ext_of (narrow_any d (plus w4 z) hd0 Hsh.out (tabGo HT4.out (plus_below _ _)))
     have Hh2 := Lib.hid h2
     clear hH hh h2 hd0
     rcases hc with ⟨hne, hD⟩ | ⟨⟨e1, e2⟩, hD⟩
     ·have HD := Lib.hid hD
      obtain ⟨n3, hn3⟩ : ∃ n3, n3 = leadX d := ⟨_, rfl⟩
      obtain ⟨n4, hn4⟩ : ∃ n4, n4 = widX d := ⟨_, rfl⟩
      rw [← hn3, ← hn4] at hN hne
      have HN := Lib.hid hN
      clear hN hD hn3 hn4
      have hx : (((n3 : Int) == (p : Int)) = true ∧ ((n4 : Int) == (x : Int)) = false) ∨ ((n3 : Int) == (p : Int)) = false := by
       by_cases h3 : n3 = p
       ·exact Or.inl ⟨by rw [h3]; simp, beq_eq_false_iff_ne.2 (fun e => hne ⟨h3, by omega⟩)⟩
       ·exact Or.inr (beq_eq_false_iff_ne.2 (by omega))
      clear hne
      rcases hx with ⟨m1, m2⟩ | m1
      all_goals
       refine wp_region_tail_ext 10 (by kernel_rfl) (by kernel_rfl) ?_
       simp only [List.take_succ_cons, List.take_zero, List.drop_succ_cons, List.drop_zero]
       repeat (go_big_quiet_step ((first | (go_at_call 121; exact HH.out _) | (go_at_call 122; exact HN.out _))))
       refine wpQuiet_nil ?_
       rintro w5 ⟨z, rfl⟩
       have hz := plus_below w4 z
       have HL5 := Lib.hid (HL4.out.below hz HL4.out.lt)
       have HR5 := Lib.hid (HR4.out.below hz HR4.out.lt)
       have HB5 := Lib.hid (HB4.out.below hz HB4.out.lt)
       have t5 := on1 t4 hz
       clear hp
       obtain ⟨b0, b1⟩ := HB5.out.duo.1
       obtain ⟨⟨o0, o1⟩, o2, o3⟩ := HR5.out.duo
       have dq : (plus w4 z).cell? ⟨w1.heap.size, 0, none⟩ = some (.int .i64 p) ∧ (plus w4 z).cell? ⟨w1.heap.size, 1, none⟩ = some (.int .i64 x) := ⟨b0, b1⟩
       have ndr : ∀ (W : World) (a : Addr), W.drew.cell? a = W.cell? a := fun _ _ => rfl
       have nf1 := fun (W : World) (i j : Nat) (u : Value) => World.cell?_setCell_far W ⟨w.heap.size + 1 + 1, i, none⟩ ⟨w1.heap.size, j, none⟩ u (by simp; omega)
       have f7 : IntKind.i64.wrap ((a11 : Int) + x) = (a11 : Int) + x := by rw [IntKind.wrap_i64]; have := Ha'.out; omega
       go_wp2_with fail
       go_region_held3 (fun w' => w'.cell? ⟨w1.heap.size, 0, none⟩ = some (.int .i64 p) ∧ w'.cell? ⟨w1.heap.size, 1, none⟩ = some (.int .i64 x)) (first | with_reducible exact dq | (simp only [ndr]; with_reducible exact dq) | (simp only [nf1]; with_reducible exact dq) | (simp only [ndr, nf1]; with_reducible exact dq)) (fail)
       go_wp2_with fail
       have FR : Blk _ (w.heap.size + 1 + 1) 176 #[.int .i64 p, .int .i64 x] := HR5.out.set2 (.int .i64 p) (.int .i64 x)
       obtain ⟨⟨v0, v1⟩, -⟩ := FR.duo
       have TF := (t5.setCell (p := ⟨w.heap.size + 1 + 1, 0, none⟩) (by simp; omega) (.int .i64 p)).setCell (p := ⟨w.heap.size + 1 + 1, 1, none⟩) (by simp; omega) (.int .i64 x)
       refine bodyPost_ret (v := .tuple #[.int .u64 d, .int .i64 ((a11 : Int) + x), .agg #[.int .i64 p, .int .i64 x], .int .u16 30]) (by simp [results, Tryz.results117, go_sem, v0, v1]) rfl ⟨⟨d, (a11 : Int) + x, p, x, 30, rfl, by rw [HD.out], fun h => by cases h⟩, TF.drew⟩
     ·rw [e1, e2] at hN
      have HN := Lib.hid hN
      have HD := Lib.hid hD
      clear hD e1 e2 hN
      refine wp_region_tail_ext 10 (by kernel_rfl) (by kernel_rfl) ?_
      simp only [List.take_succ_cons, List.take_zero, List.drop_succ_cons, List.drop_zero]
      repeat (go_big_quiet_step ((first | (go_at_call 121; exact HH.out _) | (go_at_call 122; exact HN.out _))))
      refine wpQuiet_nil ?_
      rintro w5 ⟨z, rfl⟩
      have hz := plus_below w4 z
      have HL5 := Lib.hid (HL4.out.below hz HL4.out.lt)
      have HR5 := Lib.hid (HR4.out.below hz HR4.out.lt)
      have HB5 := Lib.hid (HB4.out.below hz HB4.out.lt)
      have t5 := on1 t4 hz
      clear hp
      obtain ⟨b0, b1⟩ := HB5.out.duo.1
      obtain ⟨⟨o0, o1⟩, o2, o3⟩ := HR5.out.duo
      have dq : (plus w4 z).cell? ⟨w1.heap.size, 0, none⟩ = some (.int .i64 p) ∧ (plus w4 z).cell? ⟨w1.heap.size, 1, none⟩ = some (.int .i64 x) := ⟨b0, b1⟩
      have ndr : ∀ (W : World) (a : Addr), W.drew.cell? a = W.cell? a := fun _ _ => rfl
      have nf1 := fun (W : World) (i j : Nat) (u : Value) => World.cell?_setCell_far W ⟨w.heap.size + 1 + 1, i, none⟩ ⟨w1.heap.size, j, none⟩ u (by simp; omega)
      have f7 : IntKind.i64.wrap ((a11 : Int) + x) = (a11 : Int) + x := by rw [IntKind.wrap_i64]; have := Ha'.out; omega
      go_wp2_with fail
      go_region_held3 (fun w' => w'.cell? ⟨w1.heap.size, 0, none⟩ = some (.int .i64 p) ∧ w'.cell? ⟨w1.heap.size, 1, none⟩ = some (.int .i64 x)) (first | with_reducible exact dq | (simp only [ndr]; with_reducible exact dq) | (simp only [nf1]; with_reducible exact dq) | (simp only [ndr, nf1]; with_reducible exact dq)) (fail)
      go_wp2_with fail
      have FR : Blk _ (w.heap.size + 1 + 1) 176 #[.int .i64 p, .int .i64 x] := HR5.out.set2 (.int .i64 p) (.int .i64 x)
      obtain ⟨⟨v0, v1⟩, -⟩ := FR.duo
      have TF := (t5.setCell (p := ⟨w.heap.size + 1 + 1, 0, none⟩) (by simp; omega) (.int .i64 p)).setCell (p := ⟨w.heap.size + 1 + 1, 1, none⟩) (by simp; omega) (.int .i64 x)
      refine bodyPost_ret (v := .tuple #[.int .u64 d, .int .i64 ((a11 : Int) + x), .agg #[.int .i64 p, .int .i64 x], .int .u16 n2]) (by simp [results, Tryz.results117, go_sem, v0, v1]) rfl ⟨⟨d, (a11 : Int) + x, p, x, n2, rfl, by rw [HD.out]; exact Hh2.out, fun _ => by rw [HD.out]; exact ⟨rfl, by have := Ha'.out; simp only; omega, rfl, rfl⟩⟩, TF.drew⟩
end Go.Proofs.YtmcdollkmlcpbaaGreatDoor
namespace Go.Proofs.YtmcdollkmlcpbaaGreatDoor
open Go.RowKit
def decI (s : XV) (l : List UInt8) (m : Nat) (at_ : Int) : Nat × Nat × Nat × Nat × Nat := if at_ < 0 ∨ (m : Int) < at_ then (0, 0, 0, 0, 10) else decD s ((bitl l m).drop at_.toNat)
def DecOut2 (D : Nat × Nat × Nat × Nat × Nat) (a : Int) (e : Ending) : Prop :=
 ∃ (d : Nat) (nx : Int) (bl bw c : Nat), e = .returned (.tuple #[.int .u64 d, .int .i64 nx, .agg #[.int .i64 bl, .int .i64 bw], .int .u16 c]) ∧ c = D.2.2.2.2 ∧
  (c = 0 → d = D.1 ∧ nx = a + (D.2.1 : Int) ∧ bl = D.2.2.1 ∧ bw = D.2.2.2.1)
theorem dec_facts (s : XV) {l : List UInt8} {m : Nat} {at_ : Int} (hs : soundB l (m : Int) = true) :
  (s.has = false ∧ ∃ g1 g2 : Nat, getSpec l (m : Int) at_ 64 = (g1, g2) ∧ ((g2 = 10 ∧ (decI s l m at_).2.2.2.2 = 10) ∨ (g2 = 0 ∧ 0 ≤ at_ ∧ at_ + 64 ≤ m ∧ decI s l m at_ = (g1, 64, 0, 0, 0)))) ∨
  (s.has = true ∧ ∃ g1 g2 : Nat, getSpec l (m : Int) at_ 1 = (g1, g2) ∧
   ((g2 = 10 ∧ (decI s l m at_).2.2.2.2 = 10) ∨ (g2 = 0 ∧ g1 = 0 ∧ 0 ≤ at_ ∧ at_ + 1 ≤ m ∧ decI s l m at_ = (0, 1, s.lead, s.width, 0)) ∨
    (g2 = 0 ∧ g1 = 1 ∧ ∃ a : Nat, at_ = a ∧ a + 1 ≤ m ∧ ∃ k1 k2 : Nat, getSpec l (m : Int) ((a + 1 : Nat) : Int) 1 = (k1, k2) ∧
     ((k2 = 10 ∧ (decI s l m at_).2.2.2.2 = 10) ∨
      (k2 = 0 ∧ k1 = 0 ∧ a + 2 ≤ m ∧ decI s l m at_ = ((oldD s.lead s.width ((bitl l m).drop (a + 2))).1, 2 + (oldD s.lead s.width ((bitl l m).drop (a + 2))).2.1, (oldD s.lead s.width ((bitl l m).drop (a + 2))).2.2)) ∨
      (k2 = 0 ∧ k1 = 1 ∧ a + 2 ≤ m ∧ decI s l m at_ = ((newD s.lead s.width ((bitl l m).drop (a + 2))).1, 2 + (newD s.lead s.width ((bitl l m).drop (a + 2))).2.1, (newD s.lead s.width ((bitl l m).drop (a + 2))).2.2)))))) := by
 by_cases ho : at_ < 0 ∨ (m : Int) < at_
 ·have hD : decI s l m at_ = (0, 0, 0, 0, 10) := if_pos ho
  cases hh : s.has
  ·exact Or.inl ⟨rfl, 0, 10, get_out hs ho (by omega), Or.inl ⟨rfl, by rw [hD]⟩⟩
  ·exact Or.inr ⟨rfl, 0, 10, get_out hs ho (by omega), Or.inl ⟨rfl, by rw [hD]⟩⟩
 ·obtain ⟨a, rfl⟩ : ∃ a : Nat, at_ = a := ⟨at_.toNat, by omega⟩
  have ham : a ≤ m := by omega
  have hD : decI s l m (a : Int) = decD s ((bitl l m).drop a) := by
   unfold decI
   rw [if_neg ho, Int.toNat_natCast]
  rw [hD]
  have hlen : ((bitl l m).drop a).length = m - a := by rw [List.length_drop, bitl_length]
  cases hh : s.has
  ·refine Or.inl ⟨rfl, ?_⟩
   have h0 := get_front (d := 64) hs ham (by omega)
   rw [show ((64 : Nat) : Int) = 64 from rfl] at h0
   rw [h0]
   unfold decD
   rw [if_pos hh]
   by_cases h1 : ((bitl l m).drop a).length < 64
   ·rw [if_pos h1, if_pos h1]
    exact ⟨0, 10, rfl, Or.inl ⟨rfl, rfl⟩⟩
   ·rw [if_neg h1, if_neg h1]
    exact ⟨_, 0, rfl, Or.inr ⟨rfl, by omega, by omega, rfl⟩⟩
  ·refine Or.inr ⟨rfl, ?_⟩
   have hne : ¬ s.has = false := by rw [hh]; decide
   rcases get_bit hs ham with ⟨hr, hma, hg⟩ | ⟨b, r, hr, hma, hr1, hg⟩
   ·rw [hg, hr]
    exact ⟨0, 10, rfl, Or.inl ⟨rfl, by unfold decD; rw [if_neg hne]⟩⟩
   ·rw [hg, hr]
    cases b
    ·exact ⟨0, 0, rfl, Or.inr (Or.inl ⟨rfl, rfl, by omega, by omega, by unfold decD; rw [if_neg hne]⟩)⟩
    ·refine ⟨1, 0, rfl, Or.inr (Or.inr ⟨rfl, rfl, a, rfl, hma, ?_⟩)⟩
     rcases get_bit (a := a + 1) hs hma with ⟨hr2, hma2, hg2⟩ | ⟨b2, r2, hr2, hma2, hr3, hg2⟩
     ·rw [hg2]
      rw [hr1] at hr2
      rw [hr2]
      exact ⟨0, 10, rfl, Or.inl ⟨rfl, by unfold decD; rw [if_neg hne]⟩⟩
     ·rw [hg2]
      rw [hr1] at hr2
      rw [hr2]
      rw [show a + 2 = a + 1 + 1 from rfl, hr3]
      cases b2
      ·exact ⟨0, 0, rfl, Or.inr (Or.inl ⟨rfl, rfl, hma2, by unfold decD; rw [if_neg hne]⟩)⟩
      ·exact ⟨1, 0, rfl, Or.inr (Or.inr ⟨rfl, rfl, hma2, by unfold decD; rw [if_neg hne]⟩)⟩
set_option maxRecDepth 100000 in
set_option maxHeartbeats 1000000 in
theorem decode_any (A : Option Addr) (c : Nat) (l : List UInt8) (m : Nat) (at_ : Int) (h : Bool) (p L X : Nat) (w : World) (hb : Bs w A l) (hs : soundB l (m : Int) = true) (hl : l.length ≤ 100000) (ha : -9223372036854775808 ≤ at_ ∧ at_ ≤ 9223372036854775807) (hm : m ≤ 800000) (hx : soundX ⟨h, p, L, X⟩ = true) (hT : Tab w) :
  Calls Tryz.prog 97 #[.agg #[.slice A l.length c, .int .i64 m], .int .i64 at_, .agg #[.bool h, .int .u64 p, .int .u8 L, .int .u8 X]] w fun e w' => DecOut2 (decI ⟨h, p, L, X⟩ l m at_) at_ e ∧ Below w.heap.size w w' := by
 have hmx : Tryz.prog.follows .mixedOrders = true := by kernel_rfl
 have hf := dec_facts ⟨h, p, L, X⟩ (at_ := at_) hs
 have hLX : L + X ≤ 64 := by
  unfold soundX at hx
  cases h <;> simp at hx <;> omega
 obtain ⟨D, hD⟩ : ∃ D, D = decI ⟨h, p, L, X⟩ l m at_ := ⟨_, rfl⟩
 rw [← hD] at hf ⊢
 clear hD hx
 obtain ⟨d0, d1, d2, t0, z0⟩ := three_at w #[.slice A l.length c, .int .i64 m] #[.bool h, .int .u64 p, .int .u8 L, .int .u8 X] #[.int .i64 0, .int .i64 0] 33 86 176
 obtain ⟨aw, haw⟩ : ∃ aw, aw = IntKind.i64.wrap (at_ + 64) := ⟨_, rfl⟩
 obtain ⟨a1, ha1⟩ : ∃ aw, aw = IntKind.i64.wrap (at_ + 1) := ⟨_, rfl⟩
 have HAW := Lib.hid haw
 have HA1 := Lib.hid ha1
 have HT := Lib.hid (tabGo hT t0)
 rcases hf with ⟨hh, g1, g2, hG, hc⟩ | ⟨hh, g1, g2, hG, hc⟩
 ·subst hh
  go_enter Tryz.func97, Tryz.ntmps97
  go_wp2_with fail
  generalize (((w.alloc (.cells #[.slice A l.length c, .int .i64 m] 33)).alloc (.cells #[.bool false, .int .u64 p, .int .u8 L, .int .u8 X] 86)).alloc (.cells #[.int .i64 0, .int .i64 0] 176)) = W0 at *
  have hb0 := hb.below t0
  have HD0 := Lib.hid d0
  have HD1 := Lib.hid d1
  have HD2 := Lib.hid d2
  have Ht0 := Lib.hid t0
  have HB0 := Lib.hid hb0
  have haw2 : IntKind.i64.wrap (at_ + 64) = aw := haw.symm
  have ha12 : IntKind.i64.wrap (at_ + 1) = a1 := ha1.symm
  clear hT haw ha1 hb
  have hg := get_any A c l m at_ 64 W0 hb0 (by omega) (by omega) (by omega) (by omega)
  rw [hG] at hg
  have HG := Lib.hid hg
  have HC := Lib.hid hc
  clear hg hG hc hb0
  obtain ⟨⟨q0, q1, q2, q3⟩, -⟩ := HD1.out.quad
  obtain ⟨⟨u0, u1⟩, -⟩ := HD0.out.duo
  clear d0 d1 d2 t0
  go_wp2_with fail
  refine HG.out.mono ?_
  rintro e w1 ⟨rfl, b1⟩
  have R1 := Lib.hid (HD2.out.below b1 HD2.out.lt)
  obtain ⟨⟨r0, r1⟩, r2, r3⟩ := R1.out.duo
  have t1 := on1 Ht0.out b1
  have z1 := R1.out.lt
  clear b1 HG
  go_wp2_with fail
  have FR : Blk _ (w.heap.size + 1 + 1) 176 #[.int .i64 0, .int .i64 0] := R1.out.set2 (.int .i64 0) (.int .i64 0)
  obtain ⟨⟨v0, v1⟩, -⟩ := FR.duo
  have TF := (t1.setCell (p := ⟨w.heap.size + 1 + 1, 0, none⟩) (by simp; omega) (.int .i64 0)).setCell (p := ⟨w.heap.size + 1 + 1, 1, none⟩) (by simp; omega) (.int .i64 0)
  refine bodyPost_ret (v := .tuple #[.int .u64 g1, .int .i64 aw, .agg #[.int .i64 0, .int .i64 0], .int .u16 g2]) (by simp [results, Tryz.results97, go_sem, v0, v1]) rfl ⟨⟨g1, aw, 0, 0, g2, rfl, ?_, ?_⟩, TF⟩
  ·rcases HC.out with ⟨h1, h2⟩ | ⟨h1, h2, h3, h4⟩
   ·rw [h1, h2]
   ·rw [h1, h4]
  ·rcases HC.out with ⟨h1, h2⟩ | ⟨h1, h2, h3, h4⟩
   ·intro h; omega
   ·intro _
    rw [h4]
    refine ⟨rfl, ?_, rfl, rfl⟩
    rw [HAW.out, IntKind.wrap_i64]
    simp only
    omega
 ·subst hh
  go_enter Tryz.func97, Tryz.ntmps97
  go_wp2_with fail
  generalize (((w.alloc (.cells #[.slice A l.length c, .int .i64 m] 33)).alloc (.cells #[.bool true, .int .u64 p, .int .u8 L, .int .u8 X] 86)).alloc (.cells #[.int .i64 0, .int .i64 0] 176)) = W0 at *
  have hb0 := hb.below t0
  have HD0 := Lib.hid d0
  have HD1 := Lib.hid d1
  have HD2 := Lib.hid d2
  have Ht0 := Lib.hid t0
  have HB0 := Lib.hid hb0
  have haw2 : IntKind.i64.wrap (at_ + 64) = aw := haw.symm
  have ha12 : IntKind.i64.wrap (at_ + 1) = a1 := ha1.symm
  clear hT haw ha1 hb
  have hg := get_any A c l m at_ 1 W0 hb0 (by omega) (by omega) (by omega) (by omega)
  rw [hG] at hg
  have HG := Lib.hid hg
  have HC := Lib.hid hc
  clear hg hG hc hb0
  obtain ⟨⟨q0, q1, q2, q3⟩, -⟩ := HD1.out.quad
  obtain ⟨⟨u0, u1⟩, -⟩ := HD0.out.duo
  clear d0 d1 d2 t0
  go_wp2_with fail
  refine HG.out.mono ?_
  rintro e w1 ⟨rfl, b1⟩
  have E1 := Lib.hid (HD0.out.below b1 HD0.out.lt)
  have S1 := Lib.hid (HD1.out.below b1 HD1.out.lt)
  have R1 := Lib.hid (HD2.out.below b1 HD2.out.lt)
  have HT1 := Lib.hid (tabGo HT.out b1)
  have hb1 := Lib.hid (HB0.out.below b1)
  have t1 := on1 Ht0.out b1
  have z1 := R1.out.lt
  clear b1 HG q0 q1 q2 q3 u0 u1 HD0 HD1 HD2 HT HB0
  obtain ⟨⟨q0, q1, q2, q3⟩, -⟩ := S1.out.quad
  obtain ⟨⟨u0, u1⟩, -⟩ := E1.out.duo
  obtain ⟨⟨r0, r1⟩, r2, r3⟩ := R1.out.duo
  have hcc : ((((g2 : Int) == 0) = false ∨ (g2 = 0 ∧ g1 = 0)) ∧ g2 = D.2.2.2.2 ∧ (g2 = 0 → D = (0, 1, L, X, 0) ∧ a1 = at_ + 1)) ∨
    (g2 = 0 ∧ g1 = 1 ∧ ∃ a : Nat, at_ = a ∧ a + 1 ≤ m ∧ ∃ k1 k2 : Nat, getSpec l (m : Int) ((a + 1 : Nat) : Int) 1 = (k1, k2) ∧
     ((k2 = 10 ∧ D.2.2.2.2 = 10) ∨
      (k2 = 0 ∧ k1 = 0 ∧ a + 2 ≤ m ∧ D = ((oldD L X ((bitl l m).drop (a + 2))).1, 2 + (oldD L X ((bitl l m).drop (a + 2))).2.1, (oldD L X ((bitl l m).drop (a + 2))).2.2)) ∨
      (k2 = 0 ∧ k1 = 1 ∧ a + 2 ≤ m ∧ D = ((newD L X ((bitl l m).drop (a + 2))).1, 2 + (newD L X ((bitl l m).drop (a + 2))).2.1, (newD L X ((bitl l m).drop (a + 2))).2.2)))) := by
   rcases HC.out with ⟨h1, h2⟩ | ⟨h1, h2, h3, h4, h5⟩ | h
   ·exact Or.inl ⟨Or.inl (beq_eq_false_iff_ne.2 (by omega)), by rw [h1, h2], fun h => by omega⟩
   ·refine Or.inl ⟨Or.inr ⟨h1, h2⟩, by rw [h1, h5], fun _ => ⟨h5, ?_⟩⟩
    rw [HA1.out, IntKind.wrap_i64]
    omega
   ·exact Or.inr h
  clear HC
  rcases hcc with ⟨hk, hc2, hc3⟩ | ⟨rfl, rfl, a, rfl, ham, k1, k2, hG, hc⟩
  ·have HK2 := Lib.hid hc2
   have HK3 := Lib.hid hc3
   clear hc2 hc3
   rcases hk with hk | ⟨rfl, rfl⟩
   ·skip
    go_wp2_with fail
    refine (bandOf_any true p L X w1 (by omega) (by omega)).mono ?_
    rintro e w2 ⟨rfl, b2⟩
    have R2 := Lib.hid (R1.out.below b2 R1.out.lt)
    have t2 := on1 t1 b2
    have z2 := R2.out.lt
    clear r0 r1 r2 r3 b2
    obtain ⟨⟨r0, r1⟩, r2, r3⟩ := R2.out.duo
    go_wp2_with fail
    have FR : Blk _ (w.heap.size + 1 + 1) 176 #[.int .i64 L, .int .i64 X] := R2.out.set2 (.int .i64 L) (.int .i64 X)
    obtain ⟨⟨v0, v1⟩, -⟩ := FR.duo
    have TF := (t2.setCell (p := ⟨w.heap.size + 1 + 1, 0, none⟩) (by simp; omega) (.int .i64 L)).setCell (p := ⟨w.heap.size + 1 + 1, 1, none⟩) (by simp; omega) (.int .i64 X)
    refine bodyPost_ret (v := .tuple #[.int .u64 0, .int .i64 a1, .agg #[.int .i64 L, .int .i64 X], .int .u16 g2]) (by simp [results, Tryz.results97, go_sem, v0, v1]) rfl ⟨⟨0, a1, L, X, g2, rfl, HK2.out, ?_⟩, TF⟩
    intro h
    obtain ⟨h1, h2⟩ := HK3.out h
    rw [h1, h2]
    exact ⟨rfl, rfl, rfl, rfl⟩
   ·skip
    go_wp2_with fail
    refine (bandOf_any true p L X w1 (by omega) (by omega)).mono ?_
    rintro e w2 ⟨rfl, b2⟩
    have R2 := Lib.hid (R1.out.below b2 R1.out.lt)
    have t2 := on1 t1 b2
    have z2 := R2.out.lt
    clear r0 r1 r2 r3 b2
    obtain ⟨⟨r0, r1⟩, r2, r3⟩ := R2.out.duo
    go_wp2_with fail
    have FR : Blk _ (w.heap.size + 1 + 1) 176 #[.int .i64 L, .int .i64 X] := R2.out.set2 (.int .i64 L) (.int .i64 X)
    obtain ⟨⟨v0, v1⟩, -⟩ := FR.duo
    have TF := (t2.setCell (p := ⟨w.heap.size + 1 + 1, 0, none⟩) (by simp; omega) (.int .i64 L)).setCell (p := ⟨w.heap.size + 1 + 1, 1, none⟩) (by simp; omega) (.int .i64 X)
    refine bodyPost_ret (v := .tuple #[.int .u64 0, .int .i64 a1, .agg #[.int .i64 L, .int .i64 X], .int .u16 0]) (by simp [results, Tryz.results97, go_sem, v0, v1]) rfl ⟨⟨0, a1, L, X, 0, rfl, HK2.out, ?_⟩, TF⟩
    intro h
    obtain ⟨h1, h2⟩ := HK3.out (by first | exact h | trivial)
    rw [h1, h2]
    exact ⟨rfl, rfl, rfl, rfl⟩
  ·have hw1 : IntKind.i64.wrap ((a : Int) + 1) = ((a + 1 : Nat) : Int) := by rw [IntKind.wrap_i64]; omega
   have hw2 : IntKind.i64.wrap ((a : Int) + 2) = ((a + 2 : Nat) : Int) := by rw [IntKind.wrap_i64]; omega
   have hg := get_any A c l m ((a + 1 : Nat) : Int) 1 w1 hb1.out (by omega) (by omega) (by omega) (by omega)
   rw [hG] at hg
   have HG := Lib.hid hg
   have HC := Lib.hid hc
   clear hg hG hc
   obtain ⟨a1n, ha1n⟩ : ∃ a1n, a1n = a + 1 := ⟨_, rfl⟩
   obtain ⟨a2n, ha2n⟩ : ∃ a2n, a2n = a + 2 := ⟨_, rfl⟩
   rw [← ha1n] at hw1 HG
   rw [← ha2n] at hw2 HC
   have H2n := Lib.hid ha2n
   clear ha1n ha2n HA1 HAW haw2 ha12
   go_wp2_with fail
   refine HG.out.mono ?_
   rintro e w2 ⟨rfl, b2⟩
   have E2 := Lib.hid (E1.out.below b2 E1.out.lt)
   have S2 := Lib.hid (S1.out.below b2 S1.out.lt)
   have R2 := Lib.hid (R1.out.below b2 R1.out.lt)
   have HT2 := Lib.hid (tabGo HT1.out b2)
   have hb2 := Lib.hid (hb1.out.below b2)
   have t2 := on1 t1 b2
   have z2 := R2.out.lt
   clear b2 HG q0 q1 q2 q3 u0 u1 r0 r1 r2 r3 E1 S1 R1 HT1 hb1
   obtain ⟨⟨q0, q1, q2, q3⟩, -⟩ := S2.out.quad
   obtain ⟨⟨u0, u1⟩, -⟩ := E2.out.duo
   obtain ⟨⟨r0, r1⟩, r2, r3⟩ := R2.out.duo
   rcases HC.out with ⟨rfl, h2⟩ | ⟨rfl, rfl, ha2, hd⟩ | ⟨rfl, rfl, ha2, hd⟩
   ·have H2 := Lib.hid h2
    clear h2 HC
    go_wp2_with fail
    have FR : Blk _ (w.heap.size + 1 + 1) 176 #[.int .i64 0, .int .i64 0] := R2.out.set2 (.int .i64 0) (.int .i64 0)
    obtain ⟨⟨v0, v1⟩, -⟩ := FR.duo
    have TF := (t2.setCell (p := ⟨w.heap.size + 1 + 1, 0, none⟩) (by simp; omega) (.int .i64 0)).setCell (p := ⟨w.heap.size + 1 + 1, 1, none⟩) (by simp; omega) (.int .i64 0)
    refine bodyPost_ret (v := .tuple #[.int .u64 0, .int .i64 0, .agg #[.int .i64 0, .int .i64 0], .int .u16 10]) (by simp [results, Tryz.results97, go_sem, v0, v1]) rfl ⟨⟨0, 0, 0, 0, 10, rfl, H2.out.symm, fun h => by cases h⟩, TF⟩
   ·have H2 := Lib.hid hd
    have H3 := Lib.hid ha2
    clear hd ha2 HC
    have hq : ∀ x, ((plus w2 x).cell? ⟨w.heap.size, 0, none⟩ = some (.slice A l.length c) ∧ (plus w2 x).cell? ⟨w.heap.size, 1, none⟩ = some (.int .i64 m)) := fun x => box1 (plus_below w2 x) ⟨u0, u1⟩
    have hv : ∀ x, (plus w2 x).cell? ⟨w.heap.size + 1, 0, none⟩ = some (.bool true) ∧ (plus w2 x).cell? ⟨w.heap.size + 1, 1, none⟩ = some (.int .u64 p) ∧ (plus w2 x).cell? ⟨w.heap.size + 1, 2, none⟩ = some (.int .u8 L) ∧ (plus w2 x).cell? ⟨w.heap.size + 1, 3, none⟩ = some (.int .u8 X) := fun x =>
     ((S2.out.below (plus_below w2 x) S2.out.lt : Blk (plus w2 x) (w.heap.size + 1) 86 #[.bool true, .int .u64 p, .int .u8 L, .int .u8 X])).quad.1
    go_wp2_with fail
    refine wp_region_fresh_tail 10 [] [4, 5] (fun k V z => if k = 4 then V = .agg #[.int .i64 L, .int .i64 X] else ∃ (d : Nat) (nx : Int) (bl bw c : Nat), V = .tuple #[.int .u64 d, .int .i64 nx, .agg #[.int .i64 bl, .int .i64 bw], .int .u16 c] ∧ DecOut (oldD L X ((bitl l m).drop a2n)) a2n (.returned V)) hmx (by kernel_rfl) (by kernel_rfl) ?_
    simp only [List.take_succ_cons, List.take_zero, List.drop_succ_cons, List.drop_zero]
    iterate 4 (refine walkF_one none w2 rfl (by kernel_rfl) ?_; go_big_quiet_step (fail); refine wpQuiet_nil ?_)
    refine walkF_make none w2 rfl rfl rfl (by kernel_rfl) (fun x => ?_) ?_
    ·refine grow_call ?_ ((bandOf_any true p L X (plus w2 x) (by omega) (by omega)).mono ?_)
     ·simp [execOp, go_sem]
     ·rintro e w4 ⟨rfl, b4⟩
      exact ⟨_, rfl, b4, rfl⟩
    rintro V1 z1 rfl g1
    conv => arg 11; simp [Act.put]
    refine walkF_make none w2 rfl rfl rfl (by kernel_rfl) (fun x => ?_) ?_
    ·refine grow_call ?_ ((decodeOld_any A c l m a2n L X (plus w2 x) (hb2.out.below (plus_below _ _)) hs hl (by have := H3.out; have := H2n.out; omega) hm hLX).mono ?_)
     ·simp [execOp, go_sem]
     ·rintro e w4 ⟨hO, b4⟩
      obtain ⟨d, nx, bl, bw, c, rfl, hh⟩ := hO
      exact ⟨_, rfl, b4, d, nx, bl, bw, c, rfl, d, nx, bl, bw, c, rfl, hh⟩
    rintro V2 z2 ⟨d, nx, bl, bw, c, rfl, hO⟩ g2
    have HO := Lib.hid hO
    clear hO
    conv => arg 11; simp [Act.put]
    iterate 4 (refine walkF_one none w2 rfl (by kernel_rfl) ?_; go_big_quiet_step (fail); refine wpQuiet_nil ?_)
    refine walkF_end ?_
    intro w' h0 hE
    have fR := R2.out.below h0 R2.out.lt
    obtain ⟨⟨r0, r1⟩, r2, r3⟩ := fR.duo
    have t3 := on1 t2 h0
    have z3 := fR.lt
    have FR : Blk _ (w.heap.size + 1 + 1) 176 #[.int .i64 bl, .int .i64 bw] := fR.set2 (.int .i64 bl) (.int .i64 bw)
    obtain ⟨⟨v0, v1⟩, -⟩ := FR.duo
    have TF := (t3.setCell (p := ⟨w.heap.size + 1 + 1, 0, none⟩) (by simp; omega) (.int .i64 bl)).setCell (p := ⟨w.heap.size + 1 + 1, 1, none⟩) (by simp; omega) (.int .i64 bw)
    clear hE
    go_wp2_with fail
    refine bodyPost_ret (v := .tuple #[.int .u64 d, .int .i64 nx, .agg #[.int .i64 bl, .int .i64 bw], .int .u16 c]) (by simp [results, Tryz.results97, go_sem, v0, v1]) rfl ⟨⟨d, nx, bl, bw, c, rfl, ?_⟩, TF⟩
    obtain ⟨d', nx', bl', bw', c', he, hc, hh⟩ := HO.out
    simp only [Ending.returned.injEq, Value.tuple.injEq, Array.mk.injEq, List.cons.injEq, Value.int.injEq, Value.agg.injEq, true_and, and_true, Int.ofNat_inj, Int.natCast_inj] at he
    obtain ⟨rfl, rfl, ⟨rfl, rfl⟩, rfl⟩ := he
    rw [H2.out]
    refine ⟨hc, fun h => ?_⟩
    obtain ⟨e1, e2, e3, e4⟩ := hh h
    exact ⟨e1, by rw [e2, H2n.out]; simp; omega, e3, e4⟩
   ·have H2 := Lib.hid hd
    have H3 := Lib.hid ha2
    clear hd ha2 HC
    have hq : ∀ x, ((plus w2 x).cell? ⟨w.heap.size, 0, none⟩ = some (.slice A l.length c) ∧ (plus w2 x).cell? ⟨w.heap.size, 1, none⟩ = some (.int .i64 m)) := fun x => box1 (plus_below w2 x) ⟨u0, u1⟩
    have hv : ∀ x, (plus w2 x).cell? ⟨w.heap.size + 1, 0, none⟩ = some (.bool true) ∧ (plus w2 x).cell? ⟨w.heap.size + 1, 1, none⟩ = some (.int .u64 p) ∧ (plus w2 x).cell? ⟨w.heap.size + 1, 2, none⟩ = some (.int .u8 L) ∧ (plus w2 x).cell? ⟨w.heap.size + 1, 3, none⟩ = some (.int .u8 X) := fun x =>
     ((S2.out.below (plus_below w2 x) S2.out.lt : Blk (plus w2 x) (w.heap.size + 1) 86 #[.bool true, .int .u64 p, .int .u8 L, .int .u8 X])).quad.1
    go_wp2_with fail
    refine wp_region_fresh_tail 10 [] [4, 5] (fun k V z => if k = 4 then V = .agg #[.int .i64 L, .int .i64 X] else ∃ (d : Nat) (nx : Int) (bl bw c : Nat), V = .tuple #[.int .u64 d, .int .i64 nx, .agg #[.int .i64 bl, .int .i64 bw], .int .u16 c] ∧ DecOut (newD L X ((bitl l m).drop a2n)) a2n (.returned V)) hmx (by kernel_rfl) (by kernel_rfl) ?_
    simp only [List.take_succ_cons, List.take_zero, List.drop_succ_cons, List.drop_zero]
    iterate 4 (refine walkF_one none w2 rfl (by kernel_rfl) ?_; go_big_quiet_step (fail); refine wpQuiet_nil ?_)
    refine walkF_make none w2 rfl rfl rfl (by kernel_rfl) (fun x => ?_) ?_
    ·refine grow_call ?_ ((bandOf_any true p L X (plus w2 x) (by omega) (by omega)).mono ?_)
     ·simp [execOp, go_sem]
     ·rintro e w4 ⟨rfl, b4⟩
      exact ⟨_, rfl, b4, rfl⟩
    rintro V1 z1 rfl g1
    conv => arg 11; simp [Act.put]
    refine walkF_make none w2 rfl rfl rfl (by kernel_rfl) (fun x => ?_) ?_
    ·refine grow_call ?_ ((decodeNew_any A c l m a2n L X (plus w2 x) (hb2.out.below (plus_below _ _)) hs hl (by have := H3.out; have := H2n.out; omega) hm hLX (tabGo HT2.out (plus_below _ _))).mono ?_)
     ·simp [execOp, go_sem]
     ·rintro e w4 ⟨hO, b4⟩
      obtain ⟨d, nx, bl, bw, c, rfl, hh⟩ := hO
      exact ⟨_, rfl, b4, d, nx, bl, bw, c, rfl, d, nx, bl, bw, c, rfl, hh⟩
    rintro V2 z2 ⟨d, nx, bl, bw, c, rfl, hO⟩ g2
    have HO := Lib.hid hO
    clear hO
    conv => arg 11; simp [Act.put]
    iterate 4 (refine walkF_one none w2 rfl (by kernel_rfl) ?_; go_big_quiet_step (fail); refine wpQuiet_nil ?_)
    refine walkF_end ?_
    intro w' h0 hE
    have fR := R2.out.below h0 R2.out.lt
    obtain ⟨⟨r0, r1⟩, r2, r3⟩ := fR.duo
    have t3 := on1 t2 h0
    have z3 := fR.lt
    have FR : Blk _ (w.heap.size + 1 + 1) 176 #[.int .i64 bl, .int .i64 bw] := fR.set2 (.int .i64 bl) (.int .i64 bw)
    obtain ⟨⟨v0, v1⟩, -⟩ := FR.duo
    have TF := (t3.setCell (p := ⟨w.heap.size + 1 + 1, 0, none⟩) (by simp; omega) (.int .i64 bl)).setCell (p := ⟨w.heap.size + 1 + 1, 1, none⟩) (by simp; omega) (.int .i64 bw)
    clear hE
    go_wp2_with fail
    refine bodyPost_ret (v := .tuple #[.int .u64 d, .int .i64 nx, .agg #[.int .i64 bl, .int .i64 bw], .int .u16 c]) (by simp [results, Tryz.results97, go_sem, v0, v1]) rfl ⟨⟨d, nx, bl, bw, c, rfl, ?_⟩, TF⟩
    obtain ⟨d', nx', bl', bw', c', he, hc, hh⟩ := HO.out
    simp only [Ending.returned.injEq, Value.tuple.injEq, Array.mk.injEq, List.cons.injEq, Value.int.injEq, Value.agg.injEq, true_and, and_true, Int.ofNat_inj, Int.natCast_inj] at he
    obtain ⟨rfl, rfl, ⟨rfl, rfl⟩, rfl⟩ := he
    rw [H2.out]
    refine ⟨hc, fun h => ?_⟩
    obtain ⟨e1, e2, e3, e4⟩ := hh h
    exact ⟨e1, by rw [e2, H2n.out]; simp; omega, e3, e4⟩
end Go.Proofs.YtmcdollkmlcpbaaGreatDoor
namespace Go.Proofs.YtmcdollkmlcpbaaGreatDoor
open Go.RowKit
def kT : Kp := kP (fun w => Tab w) fun _ _ h b => tabGo h b
theorem Ks.tab {w : World} {ks : List Kp} (h : Ks w ks) (i : Nat) (e : ks[i]? = some kT := by rfl) : Tab w := (h.get i e : Tab w)
theorem Ks.tab_ {w : World} {ks : List Kp} (h : Ks w ks) (b : Tab w) : Ks w (kT :: ks) := h.cons (k := kT) b
def getX (l : List UInt8) (n : Int) (s : XV) (at_ : Int) : Nat × Int × XV × Nat :=
 if soundB l n = false then (0, 0, xv0, 11) else if soundX s = false then (0, 0, xv0, 30)
 else if (decI s l n.toNat at_).2.2.2.2 = 0 then ((decI s l n.toNat at_).1 ^^^ s.prev, at_ + ((decI s l n.toNat at_).2.1 : Int), ⟨true, (decI s l n.toNat at_).1 ^^^ s.prev, (decI s l n.toNat at_).2.2.1, (decI s l n.toNat at_).2.2.2.1⟩, 0)
 else (0, 0, xv0, (decI s l n.toNat at_).2.2.2.2)
theorem getX_dec {l : List UInt8} {m a : Nat} {s : XV} (hb : soundB l (m : Int) = true) (hs : soundX s = true) (ha : a ≤ m) :
  getX l (m : Int) s (a : Int) = ((decX s ((bitl l m).drop a)).1, (if (decX s ((bitl l m).drop a)).2.2.2 = 0 then ((a + (decX s ((bitl l m).drop a)).2.1 : Nat) : Int) else 0), (decX s ((bitl l m).drop a)).2.2.1, (decX s ((bitl l m).drop a)).2.2.2) := by
 unfold getX
 rw [if_neg (by rw [hb]; decide), if_neg (by rw [hs]; decide), Int.toNat_natCast]
 have e : decI s l m (a : Int) = decD s ((bitl l m).drop a) := by
  unfold decI
  rw [if_neg (by omega), Int.toNat_natCast]
 rw [e, decX_D hs]
 unfold upD
 split
 ·simp
 ·rename_i h
  simp [h]
theorem decD_bound {s : XV} (hs : soundX s = true) (r : List Bool) : (decD s r).2.2.2.2 = 0 → (decD s r).1 < 18446744073709551616 ∧ (decD s r).2.2.1 < 256 ∧ (decD s r).2.2.2.1 < 256 := by
 have hlw : s.lead + s.width ≤ 64 := by
  unfold soundX at hs
  cases h : s.has <;> rw [h] at hs <;> simp at hs <;> omega
 have hO : ∀ r : List Bool, (oldD s.lead s.width r).2.2.2.2 = 0 → (oldD s.lead s.width r).1 < 18446744073709551616 ∧ (oldD s.lead s.width r).2.2.1 < 256 ∧ (oldD s.lead s.width r).2.2.2.1 < 256 := by
  intro r
  unfold oldD
  split
  ·intro h; cases h
  ·split
   ·intro h; cases h
   ·rename_i h1 _
    intro _
    have hl := numB_lt (r.take s.width)
    rw [List.length_take, Nat.min_eq_left (by omega)] at hl
    exact ⟨shl_lt hl hlw, by simp only; omega, by simp only; omega⟩
 have hN : ∀ r : List Bool, (newD s.lead s.width r).2.2.2.2 = 0 → (newD s.lead s.width r).1 < 18446744073709551616 ∧ (newD s.lead s.width r).2.2.1 < 256 ∧ (newD s.lead s.width r).2.2.2.1 < 256 := by
  intro r
  unfold newD
  split
  ·intro h; cases h
  ·split
   ·intro h; cases h
   ·split
    ·intro h; cases h
    ·split
     ·intro h; cases h
     ·rename_i h1 h2 h3 h4
      intro _
      have hl := numB_lt ((r.drop 11).take (numB ((r.drop 5).take 6) + 1))
      rw [List.length_take, List.length_drop, Nat.min_eq_left (by omega)] at hl
      exact ⟨shl_lt hl (by omega), by simp only; omega, by simp only; omega⟩
 unfold decD
 split
 ·split
  ·intro h; cases h
  ·intro _
   have hl := numB_lt (r.take 64)
   rw [List.length_take, Nat.min_eq_left (by omega)] at hl
   exact ⟨hl, by simp, by simp⟩
 ·split
  ·intro h; cases h
  ·intro _; exact ⟨by simp, by simp only; omega, by simp only; omega⟩
  ·intro h; cases h
  ·exact hO _
  ·exact hN _
theorem decI_bound {s : XV} (hs : soundX s = true) (l : List UInt8) (m : Nat) (at_ : Int) : (decI s l m at_).2.2.2.2 = 0 → (decI s l m at_).1 < 18446744073709551616 ∧ (decI s l m at_).2.2.1 < 256 ∧ (decI s l m at_).2.2.2.1 < 256 := by
 unfold decI
 split
 ·intro h; cases h
 ·exact decD_bound hs _
set_option maxRecDepth 100000 in
set_option maxHeartbeats 1000000 in
theorem xget_any (A : Option Addr) (c : Nat) (l : List UInt8) (n at_ : Int) (h : Bool) (p L X : Nat) (w : World) (hb : Bs w A l) (hn : -9223372036854775808 ≤ n ∧ n ≤ 9223372036854775807) (hl : l.length ≤ 100000) (ha : -9223372036854775808 ≤ at_ ∧ at_ ≤ 9223372036854775807) (hp : p < 18446744073709551616) (hL : L < 256) (hX : X < 256) (hT : Tab w) :
  Calls Tryz.prog 75 #[.agg #[.slice A l.length c, .int .i64 n], .int .i64 at_, .agg #[.bool h, .int .u64 p, .int .u8 L, .int .u8 X]] w fun e w' => e = .returned (.tuple #[.int .u64 (getX l n ⟨h, p, L, X⟩ at_).1, .int .i64 (getX l n ⟨h, p, L, X⟩ at_).2.1, .agg #[.bool (getX l n ⟨h, p, L, X⟩ at_).2.2.1.has, .int .u64 (getX l n ⟨h, p, L, X⟩ at_).2.2.1.prev, .int .u8 (getX l n ⟨h, p, L, X⟩ at_).2.2.1.lead, .int .u8 (getX l n ⟨h, p, L, X⟩ at_).2.2.1.width], .int .u16 (getX l n ⟨h, p, L, X⟩ at_).2.2.2]) ∧ Below w.heap.size w w' := by
 have hlm : l.length ≤ maxLen := by unfold maxLen; omega
 have K := ((Ks.three w #[.slice A l.length c, .int .i64 n] #[.bool h, .int .u64 p, .int .u8 L, .int .u8 X] #[.bool false, .int .u64 0, .int .u8 0, .int .u8 0] 33 86 86)).bs_ (hb.below (Ks.three w _ _ _ _ _ _ |>.top 0)) |>.tab_ (tabGo hT (Ks.three w _ _ _ _ _ _ |>.top 0))
 go_enter Tryz.func75, Tryz.ntmps75
 go_wp2_with fail
 generalize (((w.alloc (.cells #[.slice A l.length c, .int .i64 n] 33)).alloc (.cells #[.bool h, .int .u64 p, .int .u8 L, .int .u8 X] 86)).alloc (.cells #[.bool false, .int .u64 0, .int .u8 0, .int .u8 0] 86)) = W0 at *
 have HK := Lib.hid K
 clear K hb hT
 refine (sound_any A c l n W0 (HK.out.bs 1) hn hlm).mono ?_
 rintro e w1 ⟨rfl, b1⟩
 replace HK := Lib.hid (HK.out.go b1)
 clear b1
 obtain ⟨⟨q0, q1, q2, q3⟩, g0, g1, g2, g3⟩ := (HK.out.blk 5).quad
 obtain ⟨⟨u0, u1, u2, u3⟩, -⟩ := (HK.out.blk 4).quad
 obtain ⟨⟨v0, v1⟩, -⟩ := (HK.out.blk 3).duo
 cases hs : soundB l n
 ·have Hs := Lib.hid hs
  clear hs
  go_wp2_with fail
  have FR := (HK.out.blk 5).set4 (.bool false) (.int .u64 0) (.int .u8 0) (.int .u8 0)
  obtain ⟨⟨s0, s1, s2, s3⟩, -⟩ := FR.quad
  refine bodyPost_ret (v := .tuple #[.int .u64 0, .int .i64 0, .agg #[.bool false, .int .u64 0, .int .u8 0, .int .u8 0], .int .u16 11]) (by simp [results, Tryz.results75, go_sem, s0, s1, s2, s3]) rfl ⟨?_, below_set4 (HK.out.top 2) (by omega) _ _ _ _⟩
  unfold getX
  rw [if_pos Hs.out]
  rfl
 ·obtain ⟨m, rfl, hm8, -⟩ := sound_nat hs
  have Hs := Lib.hid hs
  clear hs
  go_wp2_with fail
  refine (xsound_any h p L X _ hL hX).mono ?_
  rintro e w2 ⟨rfl, b2⟩
  replace HK := Lib.hid (HK.out.go b2)
  clear b2 q0 q1 q2 q3 g0 g1 g2 g3 u0 u1 u2 u3 v0 v1
  obtain ⟨⟨q0, q1, q2, q3⟩, g0, g1, g2, g3⟩ := (HK.out.blk 5).quad
  obtain ⟨⟨u0, u1, u2, u3⟩, -⟩ := (HK.out.blk 4).quad
  obtain ⟨⟨v0, v1⟩, -⟩ := (HK.out.blk 3).duo
  cases hx : soundX ⟨h, p, L, X⟩
  ·have Hx := Lib.hid hx
   clear hx
   go_wp2_with fail
   have FR := (HK.out.blk 5).set4 (.bool false) (.int .u64 0) (.int .u8 0) (.int .u8 0)
   obtain ⟨⟨s0, s1, s2, s3⟩, -⟩ := FR.quad
   refine bodyPost_ret (v := .tuple #[.int .u64 0, .int .i64 0, .agg #[.bool false, .int .u64 0, .int .u8 0, .int .u8 0], .int .u16 30]) (by simp [results, Tryz.results75, go_sem, s0, s1, s2, s3]) rfl ⟨?_, below_set4 (HK.out.top 2) (by omega) _ _ _ _⟩
   unfold getX
   rw [if_neg (by rw [Hs.out]; decide), if_pos Hx.out]
   rfl
  ·have Hx := Lib.hid hx
   have HDb := Lib.hid (decI_bound hx l m at_)
   clear hx
   have hd := decode_any A c l m at_ h p L X w2 (HK.out.bs 1) Hs.out hl ha (by omega) Hx.out (HK.out.tab 0)
   have HX : Hid (getX l m ⟨h, p, L, X⟩ at_ = if (decI ⟨h, p, L, X⟩ l m at_).2.2.2.2 = 0 then ((decI ⟨h, p, L, X⟩ l m at_).1 ^^^ p, at_ + ((decI ⟨h, p, L, X⟩ l m at_).2.1 : Int), ⟨true, (decI ⟨h, p, L, X⟩ l m at_).1 ^^^ p, (decI ⟨h, p, L, X⟩ l m at_).2.2.1, (decI ⟨h, p, L, X⟩ l m at_).2.2.2.1⟩, 0)
     else (0, 0, xv0, (decI ⟨h, p, L, X⟩ l m at_).2.2.2.2)) := Lib.hid (by
    unfold getX
    rw [if_neg (by rw [Hs.out]; decide), if_neg (by rw [Hx.out]; decide), Int.toNat_natCast])
   have HD := Lib.hid hd
   clear hd
   go_wp2_with fail
   refine HD.out.mono ?_
   rintro e w3 ⟨⟨d, nx, bl, bw, ec, rfl, hec, hok⟩, b3⟩
   replace HK := Lib.hid ((HK.out.go b3).box #[.int .i64 bl, .int .i64 bw] 176)
   have Hec := Lib.hid hec
   have Hok := Lib.hid hok
   have z3 := b3.size
   clear b3 q0 q1 q2 q3 g0 g1 g2 g3 u0 u1 u2 u3 v0 v1 HD hec hok
   obtain ⟨⟨q0, q1, q2, q3⟩, g0, g1, g2, g3⟩ := (HK.out.blk 6).quad
   obtain ⟨⟨u0, u1, u2, u3⟩, -⟩ := (HK.out.blk 5).quad
   obtain ⟨⟨y0, y1⟩, -⟩ := (HK.out.blk 0).duo
   by_cases h0 : ec = 0
   ·subst h0
    obtain ⟨k1, k2, k3, k4⟩ := Hok.out rfl
    obtain ⟨j1, j2, j3⟩ := HDb.out Hec.out.symm
    rw [← k1] at j1
    rw [← k3] at j2
    rw [← k4] at j3
    have hx : bits .xor .u64 (d : Int) (p : Int) = ((d ^^^ p : Nat) : Int) := xor_int d p j1 hp
    obtain ⟨v, hv⟩ : ∃ v, v = d ^^^ p := ⟨_, rfl⟩
    rw [← hv] at hx
    have hA := after_any bl bw v
    have Hk := Lib.hid (And.intro k1 (And.intro k2 (And.intro k3 k4)))
    have Hv := Lib.hid hv
    clear k1 k2 k3 k4 hv
    go_wp2_with fail
    refine (hA _ j2 j3).mono ?_
    rintro e w4 ⟨rfl, b4⟩
    replace HK := Lib.hid (HK.out.go b4)
    clear b4 q0 q1 q2 q3 g0 g1 g2 g3 u0 u1 u2 u3 y0 y1
    obtain ⟨⟨q0, q1, q2, q3⟩, g0, g1, g2, g3⟩ := (HK.out.blk 6).quad
    go_wp2_with fail
    have FR := (HK.out.blk 6).set4 (.bool true) (.int .u64 v) (.int .u8 bl) (.int .u8 bw)
    obtain ⟨⟨s0, s1, s2, s3⟩, -⟩ := FR.quad
    refine bodyPost_ret (v := .tuple #[.int .u64 v, .int .i64 nx, .agg #[.bool true, .int .u64 v, .int .u8 bl, .int .u8 bw], .int .u16 0]) (by simp [results, Tryz.results75, go_sem, s0, s1, s2, s3]) rfl ⟨?_, below_set4 (HK.out.top 3) (by omega) _ _ _ _⟩
    obtain ⟨k1, k2, k3, k4⟩ := Hk.out
    rw [HX.out, if_pos Hec.out.symm, ← k1, ← k2, ← k3, ← k4, Hv.out]
    rfl
   ·have h0' : ((ec : Int) == 0) = false := beq_eq_false_iff_ne.2 (by omega)
    go_wp2_with fail
    have FR := (HK.out.blk 6).set4 (.bool false) (.int .u64 0) (.int .u8 0) (.int .u8 0)
    obtain ⟨⟨s0, s1, s2, s3⟩, -⟩ := FR.quad
    refine bodyPost_ret (v := .tuple #[.int .u64 0, .int .i64 0, .agg #[.bool false, .int .u64 0, .int .u8 0, .int .u8 0], .int .u16 ec]) (by simp [results, Tryz.results75, go_sem, s0, s1, s2, s3]) rfl ⟨?_, below_set4 (HK.out.top 3) (by omega) _ _ _ _⟩
    rw [HX.out, if_neg (by rw [← Hec.out]; exact h0), Hec.out]
    rfl
end Go.Proofs.YtmcdollkmlcpbaaGreatDoor
namespace Go.Proofs.YtmcdollkmlcpbaaGreatDoor
open Go.RowKit
set_option maxRecDepth 100000
theorem Blk.sept {w : World} {g : Nat} {t : TypeId} {a b c d e f h : Value} (k : Blk w g t #[a, b, c, d, e, f, h]) :
  (w.cell? ⟨g, 0, none⟩ = some a ∧ w.cell? ⟨g, 1, none⟩ = some b ∧ w.cell? ⟨g, 2, none⟩ = some c ∧ w.cell? ⟨g, 3, none⟩ = some d ∧ w.cell? ⟨g, 4, none⟩ = some e ∧ w.cell? ⟨g, 5, none⟩ = some f ∧ w.cell? ⟨g, 6, none⟩ = some h) ∧
  (w.frozen? ⟨g, 0, none⟩ = false ∧ w.frozen? ⟨g, 1, none⟩ = false ∧ w.frozen? ⟨g, 2, none⟩ = false ∧ w.frozen? ⟨g, 3, none⟩ = false ∧ w.frozen? ⟨g, 4, none⟩ = false ∧ w.frozen? ⟨g, 5, none⟩ = false ∧ w.frozen? ⟨g, 6, none⟩ = false) :=
 ⟨⟨k.cell 0, k.cell 1, k.cell 2, k.cell 3, k.cell 4, k.cell 5, k.cell 6⟩, k.frozen 0, k.frozen 1, k.frozen 2, k.frozen 3, k.frozen 4, k.frozen 5, k.frozen 6⟩
def seven (w : World) (g : Nat) (a b c d e f h : Value) : World := ((((((w.setCell ⟨g, 0, none⟩ a).setCell ⟨g, 1, none⟩ b).setCell ⟨g, 2, none⟩ c).setCell ⟨g, 3, none⟩ d).setCell ⟨g, 4, none⟩ e).setCell ⟨g, 5, none⟩ f).setCell ⟨g, 6, none⟩ h
theorem Blk.set7 {w : World} {g : Nat} {t : TypeId} {a b c d e f h : Value} (k : Blk w g t #[a, b, c, d, e, f, h]) (a' b' c' d' e' f' h' : Value) : Blk (seven w g a' b' c' d' e' f' h') g t #[a', b', c', d', e', f', h'] := by
 unfold seven; simpa using ((((((k.set 0 a').set 1 b').set 2 c').set 3 d').set 4 e').set 5 f').set 6 h'
theorem below_set7 {w0 w : World} {B g : Nat} (h : Below B w0 w) (hg : B ≤ g) (a' b' c' d' e' f' h' : Value) : Below B w0 (seven w g a' b' c' d' e' f' h') :=
 ((((((h.setCell hg _).setCell hg _).setCell hg _).setCell hg _).setCell hg _).setCell hg _).setCell hg _
theorem Blk.far7 {w : World} {g k : Nat} {t : TypeId} {cs : Array Value} (h : Blk w k t cs) (hne : k ≠ g) (a' b' c' d' e' f' h' : Value) : Blk (seven w g a' b' c' d' e' f' h') k t cs :=
 ((((((h.far _ _ hne).far _ _ hne).far _ _ hne).far _ _ hne).far _ _ hne).far _ _ hne).far _ _ hne
theorem OwnB.far7 {w : World} {g base : Nat} {v : Value} {l : List UInt8} (h : OwnB w base v l) (hne : v.ownBlock ≠ some g) (a' b' c' d' e' f' h' : Value) : OwnB (seven w g a' b' c' d' e' f' h') base v l :=
 ((((((h.far (p := ⟨g, 0, none⟩) hne _).far (p := ⟨g, 1, none⟩) hne _).far (p := ⟨g, 2, none⟩) hne _).far (p := ⟨g, 3, none⟩) hne _).far (p := ⟨g, 4, none⟩) hne _).far (p := ⟨g, 5, none⟩) hne _).far (p := ⟨g, 6, none⟩) hne _
set_option maxHeartbeats 1000000 in
theorem csound_any (n la de : Int) (h : Bool) (p L X : Nat) (w : World) (hL : L < 256) (hX : X < 256) :
  Calls Tryz.prog 90 #[.agg #[.int .i64 n, .int .i64 la, .int .i64 de, .bool h, .int .u64 p, .int .u8 L, .int .u8 X]] w fun e w' => e = .returned (.bool (soundC ⟨n, la, de, ⟨h, p, L, X⟩⟩)) ∧ Below w.heap.size w w' := by
 have K := Ks.one w #[.int .i64 n, .int .i64 la, .int .i64 de, .bool h, .int .u64 p, .int .u8 L, .int .u8 X] 88
 obtain ⟨R, hR⟩ : ∃ R, R = soundC ⟨n, la, de, ⟨h, p, L, X⟩⟩ := ⟨_, rfl⟩
 rw [← hR]
 have HR := Lib.hid hR
 have HK := Lib.hid K
 obtain ⟨⟨a0, a1, a2, a3, a4, a5, a6⟩, -⟩ := (HK.out.blk 1).sept
 clear K hR
 by_cases h0 : n = 0
 ·subst h0
  have hz : (la = 0 ∧ de = 0 ∧ h = false ∧ p = 0 ∧ L = 0 ∧ X = 0) ∨ la ≠ 0 ∨ (la = 0 ∧ de ≠ 0) ∨ (la = 0 ∧ de = 0 ∧ h = true) ∨ (la = 0 ∧ de = 0 ∧ h = false ∧ p ≠ 0) ∨ (la = 0 ∧ de = 0 ∧ h = false ∧ p = 0 ∧ L ≠ 0) ∨ (la = 0 ∧ de = 0 ∧ h = false ∧ p = 0 ∧ L = 0 ∧ X ≠ 0) := by cases h <;> simp <;> omega
  rcases hz with ⟨rfl, rfl, rfl, rfl, rfl, rfl⟩ | h1 | ⟨rfl, h1⟩ | ⟨rfl, rfl, rfl⟩ | ⟨rfl, rfl, rfl, h1⟩ | ⟨rfl, rfl, rfl, rfl, h1⟩ | ⟨rfl, rfl, rfl, rfl, rfl, h1⟩
  ·skip
   go_enter Tryz.func90, Tryz.ntmps90
   go_wp2_with fail
   go_ret
   refine ⟨?_, HK.out.top 0⟩
   rw [HR.out]
   unfold soundC
   rw [if_pos rfl]
   rfl
  ·have hb : (la == 0) = false := beq_eq_false_iff_ne.2 h1
   go_enter Tryz.func90, Tryz.ntmps90
   go_wp2_with fail
   go_ret
   refine ⟨?_, HK.out.top 0⟩
   rw [HR.out]
   unfold soundC
   rw [if_pos rfl]
   simp [h1]
  ·have hb : (de == 0) = false := beq_eq_false_iff_ne.2 h1
   go_enter Tryz.func90, Tryz.ntmps90
   go_wp2_with fail
   go_ret
   refine ⟨?_, HK.out.top 0⟩
   rw [HR.out]
   unfold soundC
   rw [if_pos rfl]
   simp [h1]
  ·skip
   go_enter Tryz.func90, Tryz.ntmps90
   go_wp2_with fail
   go_ret
   refine ⟨?_, HK.out.top 0⟩
   rw [HR.out]
   unfold soundC
   rw [if_pos rfl]
   rfl
  ·have hb : ((p : Int) == 0) = false := beq_eq_false_iff_ne.2 (by omega)
   go_enter Tryz.func90, Tryz.ntmps90
   go_wp2_with fail
   go_ret
   refine ⟨?_, HK.out.top 0⟩
   rw [HR.out]
   unfold soundC
   rw [if_pos rfl]
   simp [h1]
  ·have hb : ((L : Int) == 0) = false := beq_eq_false_iff_ne.2 (by omega)
   go_enter Tryz.func90, Tryz.ntmps90
   go_wp2_with fail
   go_ret
   refine ⟨?_, HK.out.top 0⟩
   rw [HR.out]
   unfold soundC
   rw [if_pos rfl]
   simp [h1]
  ·have hb : ((X : Int) == 0) = false := beq_eq_false_iff_ne.2 (by omega)
   go_enter Tryz.func90, Tryz.ntmps90
   go_wp2_with fail
   go_ret
   refine ⟨?_, HK.out.top 0⟩
   rw [HR.out]
   unfold soundC
   rw [if_pos rfl]
   simp [h1]
 ·have k0 : (n == 0) = false := beq_eq_false_iff_ne.2 h0
  by_cases hp : 0 < n
  ·have k1 : decide ((0 : Int) < n) = true := by simpa using hp
   cases h
   ·go_enter Tryz.func90, Tryz.ntmps90
    go_wp2_with fail
    go_ret
    refine ⟨?_, HK.out.top 0⟩
    rw [HR.out]
    unfold soundC
    rw [if_neg h0]
    simp
   ·go_enter Tryz.func90, Tryz.ntmps90
    go_wp2_with fail
    refine (xsound_any true p L X _ hL hX).mono ?_
    rintro e w2 ⟨rfl, b2⟩
    replace HK := Lib.hid (HK.out.go b2)
    clear b2 a0 a1 a2 a3 a4 a5 a6
    go_wp2_with fail
    go_ret
    refine ⟨?_, HK.out.top 0⟩
    rw [HR.out]
    unfold soundC
    rw [if_neg h0]
    simp [hp]
  ·have k1 : decide ((0 : Int) < n) = false := by simp; omega
   go_enter Tryz.func90, Tryz.ntmps90
   go_wp2_with fail
   go_ret
   refine ⟨?_, HK.out.top 0⟩
   rw [HR.out]
   unfold soundC
   rw [if_neg h0]
   have : decide (0 < n) = false := by simpa using hp
   simp [this]
set_option maxHeartbeats 1000000 in
theorem cafter_any (n la de t : Int) (hh : Bool) (p L X : Nat) (w : World) (hn : in64 n) (hla : in64 la) (hde : in64 de) (ht : in64 t) :
  Calls Tryz.prog 76 #[.agg #[.int .i64 n, .int .i64 la, .int .i64 de, .bool hh, .int .u64 p, .int .u8 L, .int .u8 X], .int .i64 t] w fun e w' =>
   e = .returned (.agg #[.int .i64 (w64 (n + 1)), .int .i64 t, .int .i64 (if n = 0 then de else w64 (t - la)), .bool hh, .int .u64 p, .int .u8 L, .int .u8 X]) ∧ Below w.heap.size w w' := by
 have f1 : IntKind.i64.wrap (n + 1) = w64 (n + 1) := by rw [IntKind.wrap_i64]; rfl
 have f2 : IntKind.i64.wrap (t - la) = w64 (t - la) := by rw [IntKind.wrap_i64]; rfl
 obtain ⟨n1, hn1⟩ : ∃ x, x = w64 (n + 1) := ⟨_, rfl⟩
 obtain ⟨d1, hd1⟩ : ∃ x, x = w64 (t - la) := ⟨_, rfl⟩
 rw [← hn1] at f1 ⊢
 rw [← hd1] at f2 ⊢
 have HN := Lib.hid hn1
 have HD := Lib.hid hd1
 clear hn1 hd1
 have K := Ks.two w #[.int .i64 n, .int .i64 la, .int .i64 de, .bool hh, .int .u64 p, .int .u8 L, .int .u8 X] #[.int .i64 0, .int .i64 0, .int .i64 0, .bool false, .int .u64 0, .int .u8 0, .int .u8 0] 88 88
 have HK := Lib.hid K
 obtain ⟨⟨a0, a1, a2, a3, a4, a5, a6⟩, -⟩ := (HK.out.blk 1).sept
 clear K
 by_cases h0 : n = 0
 ·subst h0
  go_enter Tryz.func76, Tryz.ntmps76
  go_wp2_with fail
  refine bodyPost_ret (v := .agg #[.int .i64 1, .int .i64 t, .int .i64 de, .bool hh, .int .u64 p, .int .u8 L, .int .u8 X]) (by simp [results, Tryz.results76, go_sem]) rfl ⟨by rw [HN.out]; rfl, ((below_alloc w _).alloc (by simp) _).alloc (by simp; omega) _⟩
 ·have k0 : (n == 0) = false := beq_eq_false_iff_ne.2 h0
  rw [if_neg h0]
  go_enter Tryz.func76, Tryz.ntmps76
  go_wp2_with fail
  refine bodyPost_ret (v := .agg #[.int .i64 n1, .int .i64 t, .int .i64 d1, .bool hh, .int .u64 p, .int .u8 L, .int .u8 X]) (by simp [results, Tryz.results76, go_sem]) rfl ⟨rfl, ((below_alloc w _).alloc (by simp) _).alloc (by simp; omega) _⟩
end Go.Proofs.YtmcdollkmlcpbaaGreatDoor
