/- Joined: Xr14, Xr15, Xr20, Chk1. -/
import Derived.Test.YtnjcdihgaidlbaaGreatDoorQ35
import Derived.Test.YtnjcdihgaidlbaaGreatDoorQ33
import Derived.Test.YtnjcdihgaidlbaaGreatDoorQ26
import Derived.Test.YtnjcdihgaidlbaaGreatDoorQ12
import Derived.Deep.RegionHeld3
import Derived.Test.YtnjcdihgaidlbaaGreatDoorQ2
import Derived.Test.YtnjcdihgaidlbaaGreatDoorQ5
import Derived.Test.YtnjcdihgaidlbaaGreatDoorQ8
import Derived.Laws.ShiftsVar
import Derived.Test.YtnjcdihgaidlbaaGreatDoorQ10
set_option linter.unusedSimpArgs false
set_option linter.unusedVariables false
namespace Go.Proofs.YtnjcdihgaidlbaaGreatDoor
open Go.RowKit
theorem encode_any (h : Bool) (p l b v : Nat) (w : World) (hv : v < 18446744073709551616) (hp : p < 18446744073709551616) (hs : soundX ⟨h, p, l, b⟩ = true) (hT : Tab w) :
  Calls Tryz.prog 121 #[.agg #[.bool h, .int .u64 p, .int .u8 l, .int .u8 b], .int .u64 v] w fun e w' => EncOut (encX ⟨h, p, l, b⟩ v).1 (encX ⟨h, p, l, b⟩ v).2 w.heap.size e w' ∧ Below w.heap.size w w' := by
 unfold soundX at hs
 cases h
 ·simp at hs
  have := encode_first p l b v _ w hv hp (by omega) rfl
  unfold encX
  rw [if_pos rfl]
  exact this
 ·simp at hs
  unfold encX
  rw [if_neg (by simp)]
  by_cases h0 : v ^^^ p = 0
  ·rw [if_pos h0]
   exact encode_same p l b v _ w hv hp (by omega) rfl h0
  ·rw [if_neg h0]
   cases hh : holdsX l b (v ^^^ p)
   ·rw [if_neg (by decide)]
    exact encode_new p l b v _ w hv hp (by omega) rfl hT h0 hh
   ·rw [if_pos rfl]
    exact encode_old p l b v _ w hv hp (by omega) rfl h0 hh
theorem three_at (w : World) (b1 b2 b3 : Array Value) (t1 t2 t3 : TypeId) :
  Blk (((w.alloc (.cells b1 t1)).alloc (.cells b2 t2)).alloc (.cells b3 t3)) w.heap.size t1 b1 ∧ Blk (((w.alloc (.cells b1 t1)).alloc (.cells b2 t2)).alloc (.cells b3 t3)) (w.heap.size + 1) t2 b2 ∧
  Blk (((w.alloc (.cells b1 t1)).alloc (.cells b2 t2)).alloc (.cells b3 t3)) (w.heap.size + 2) t3 b3 ∧ Below w.heap.size w (((w.alloc (.cells b1 t1)).alloc (.cells b2 t2)).alloc (.cells b3 t3)) ∧ (((w.alloc (.cells b1 t1)).alloc (.cells b2 t2)).alloc (.cells b3 t3)).heap.size = w.heap.size + 3 := by
 have s1 : (w.alloc (.cells b1 t1)).heap.size = w.heap.size + 1 := by simp
 have s2 : ((w.alloc (.cells b1 t1)).alloc (.cells b2 t2)).heap.size = w.heap.size + 2 := by simp
 refine ⟨((Blk.new w _ _).alloc _).alloc _, ?_, ?_, ((below_alloc w _).alloc (by simp) _).alloc (by simp; omega) _, by simp⟩
 ·have := (Blk.new (w.alloc (.cells b1 t1)) t2 b2).alloc (.cells b3 t3)
  rwa [s1] at this
 ·have := Blk.new ((w.alloc (.cells b1 t1)).alloc (.cells b2 t2)) t3 b3
  rwa [s2] at this
theorem catE_two (l : List UInt8) (m : Nat) (M : List Bool) : catE [(l, (m : Int)), (pack M, (M.length : Int))] = bitl l m ++ M := by
 unfold catE
 simp [bits_pack]
theorem soundE_two {l : List UInt8} {m : Nat} (h : soundB l m = true) (M : List Bool) : soundE [(l, (m : Int)), (pack M, (M.length : Int))] = true := by
 unfold soundE
 simp [h, sound_pack]
set_option maxRecDepth 100000 in
set_option maxHeartbeats 1000000 in
theorem xput_any (A : Option Addr) (c : Nat) (l : List UInt8) (n : Int) (h : Bool) (p ld b v : Nat) (w : World) (hb : Bs w A l) (hn : -9223372036854775808 ≤ n ∧ n ≤ 9223372036854775807) (hl : l.length ≤ 100000)
  (hv : v < 18446744073709551616) (hp : p < 18446744073709551616) (hld : ld < 256) (hbb : b < 256) (hT : Tab w) :
  Calls Tryz.prog 106 #[.agg #[.slice A l.length c, .int .i64 n], .agg #[.bool h, .int .u64 p, .int .u8 ld, .int .u8 b], .int .u64 v] w fun e w' => PutOut (putX l n ⟨h, p, ld, b⟩ v) .u16 w.heap.size e w' ∧ Below w.heap.size w w' := by
 have F := four_new w #[.slice A l.length c, .int .i64 n] #[.bool h, .int .u64 p, .int .u8 ld, .int .u8 b] #[.slice none 0 0, .int .i64 0] #[.bool false, .int .u64 0, .int .u8 0, .int .u8 0] 44 106
 have hlm : l.length ≤ maxLen := by unfold maxLen; omega
 go_enter Tryz.func106, Tryz.ntmps106
 go_wp2_with fail
 have hb0 := hb.below F.t
 have HF := Lib.hid F
 clear F
 generalize (((w.alloc (.cells #[.slice A l.length c, .int .i64 n] 44)).alloc (.cells #[.bool h, .int .u64 p, .int .u8 ld, .int .u8 b] 106)).alloc (.cells #[.slice none 0 0, .int .i64 0] 44)).alloc (.cells #[.bool false, .int .u64 0, .int .u8 0, .int .u8 0] 106) = W at *
 refine (sound_any A c l n W hb0 hn hlm).mono ?_
 rintro e w1 ⟨rfl, b1⟩
 have HF1 := Lib.hid (HF.out.go b1)
 obtain ⟨⟨q0, q1, q2, q3⟩, g0, g1, g2, g3⟩ := HF1.out.h3.quad
 obtain ⟨⟨y0, y1⟩, x0, x1⟩ := HF1.out.h2.duo
 obtain ⟨⟨u0, u1, u2, u3⟩, -⟩ := HF1.out.h1.quad
 obtain ⟨⟨v0, v1⟩, -⟩ := HF1.out.h0.duo
 have a1 := hb0.below b1
 have HT := Lib.hid hT
 clear hT
 cases hs : soundB l n
 ·have Hs := Lib.hid hs
  clear hs
  go_wp2_with fail
  have FF := HF1.out.fin (.slice none 0 0) (.int .i64 0) (.bool false) (.int .u64 0) (.int .u8 0) (.int .u8 0)
  obtain ⟨⟨s0, s1, s2, s3⟩, -⟩ := FF.h3.quad
  obtain ⟨⟨r0, r1⟩, -⟩ := FF.h2.duo
  refine bodyPost_ret (v := .tuple #[.agg #[.slice none 0 0, .int .i64 0], .agg #[.bool false, .int .u64 0, .int .u8 0, .int .u8 0], .int .u16 11]) (by simp [results, Tryz.results106, go_sem, r0, r1, s0, s1, s2, s3]) rfl ⟨?_, FF.t⟩
  unfold putX
  rw [if_pos Hs.out]
  exact ⟨none, 0, 0, rfl, rfl, OwnB.nil _ _⟩
 ·have Hs := Lib.hid hs
  clear hs
  go_wp2_with fail
  refine (xsound_any h p ld b _ hld hbb).mono ?_
  rintro e w2 ⟨rfl, b2⟩
  have HF2 := Lib.hid (HF1.out.go b2)
  clear q0 q1 q2 q3 g0 g1 g2 g3 y0 y1 x0 x1 u0 u1 u2 u3 v0 v1
  obtain ⟨⟨q0, q1, q2, q3⟩, g0, g1, g2, g3⟩ := HF2.out.h3.quad
  obtain ⟨⟨y0, y1⟩, x0, x1⟩ := HF2.out.h2.duo
  obtain ⟨⟨u0, u1, u2, u3⟩, -⟩ := HF2.out.h1.quad
  obtain ⟨⟨v0, v1⟩, -⟩ := HF2.out.h0.duo
  have a2 := a1.below b2
  cases hx : soundX ⟨h, p, ld, b⟩
  ·have Hx := Lib.hid hx
   clear hx
   go_wp2_with fail
   have FF := HF2.out.fin (.slice none 0 0) (.int .i64 0) (.bool false) (.int .u64 0) (.int .u8 0) (.int .u8 0)
   obtain ⟨⟨s0, s1, s2, s3⟩, -⟩ := FF.h3.quad
   obtain ⟨⟨r0, r1⟩, -⟩ := FF.h2.duo
   refine bodyPost_ret (v := .tuple #[.agg #[.slice none 0 0, .int .i64 0], .agg #[.bool false, .int .u64 0, .int .u8 0, .int .u8 0], .int .u16 30]) (by simp [results, Tryz.results106, go_sem, r0, r1, s0, s1, s2, s3]) rfl ⟨?_, FF.t⟩
   unfold putX
   rw [if_neg (by rw [Hs.out]; decide), if_pos Hx.out]
   exact ⟨none, 0, 0, rfl, rfl, OwnB.nil _ _⟩
  ·obtain ⟨m, hm, hm8, -⟩ := sound_nat Hs.out
   have Hx := Lib.hid hx
   have HE := Lib.hid (encode_any h p ld b v w2 hv hp hx (tabGo HT.out HF2.out.t))
   clear hx
   subst hm
   go_wp2_with fail
   refine HE.out.mono ?_
   rintro e w3 ⟨HW, b3⟩
   obtain ⟨A3, n3, c3, hn3, rfl, o3⟩ := HW
   have hlen := enc_len (s := ⟨h, p, ld, b⟩) (v := v) Hx.out hp hv
   obtain ⟨M, th, tp, tl, tb, hMT⟩ : ∃ M th tp tl tb, encX ⟨h, p, ld, b⟩ v = (M, ⟨th, tp, tl, tb⟩) := ⟨_, _, _, _, _, rfl⟩
   simp only [hMT] at hn3 o3 hlen ⊢
   have HMT := Lib.hid hMT
   have HF3 := Lib.hid (HF2.out.go b3)
   clear q0 q1 q2 q3 g0 g1 g2 g3 y0 y1 x0 x1 u0 u1 u2 u3 v0 v1 hMT HE
   subst hn3
   have a3 := a2.below b3
   have HA3 := Lib.hid a3
   have HMl : Hid (M.length ≤ 77) := Lib.hid hlen.2
   clear hlen
   obtain ⟨⟨v0, v1⟩, -⟩ := HF3.out.h0.duo
   have kA := keepA
   have kF := keepF
   have Ho3 := Lib.hid o3
   clear o3
   go_wp2_with fail
   obtain ⟨b9, b10, b11, t34, s4⟩ := three_at w3 #[.slice A3 (pack M).length c3, .int .i64 M.length] #[.bool th, .int .u64 tp, .int .u8 tl, .int .u8 tb] #[.slice A l.length c, .int .i64 m, .slice A3 (pack M).length c3, .int .i64 M.length] 44 106 44
   obtain ⟨W4, hW4⟩ : ∃ W4, W4 = ((w3.alloc (.cells #[.slice A3 (pack M).length c3, .int .i64 M.length] 44)).alloc (.cells #[.bool th, .int .u64 tp, .int .u8 tl, .int .u8 tb] 106)).alloc (.cells #[.slice A l.length c, .int .i64 m, .slice A3 (pack M).length c3, .int .i64 M.length] 44) := ⟨_, rfl⟩
   rw [← hW4] at b9 b10 b11 t34 s4 ⊢
   have HBs : BsL W4 (some ⟨w3.heap.size + 2, 0, none⟩) [(l, (m : Int)), (pack M, (M.length : Int))] := fun i e hi => by
    match i, hi with
    | 0, hi =>
     simp at hi
     subst hi
     exact ⟨_, _, A, c, rfl, b11.cell 0, b11.cell 1, HA3.out.below t34, by simp only; omega⟩
    | 1, hi =>
     simp at hi
     subst hi
     exact ⟨_, _, A3, c3, rfl, b11.cell 2, b11.cell 3, (Ho3.out.below t34).bs, by simp only; have := HMl.out; omega⟩
    | i + 2, hi => simp at hi
   have hJ := join_ok (some ⟨w3.heap.size + 2, 0, none⟩) 2 [(l, (m : Int)), (pack M, (M.length : Int))] W4 HBs (soundE_two Hs.out M) (by simp) (by
    intro e he
    simp at he
    rcases he with rfl | rfl
    ·simp only; omega
    ·simp only; have := pack_le M HMl.out; omega)
   rw [catE_two] at hJ
   obtain ⟨BS, hBS⟩ : ∃ BS, BS = bitl l m ++ M := ⟨_, rfl⟩
   rw [← hBS] at hJ
   have HJ := Lib.hid hJ
   have HBS := Lib.hid hBS
   have HF4 := Lib.hid (HF3.out.go t34)
   have HX := Lib.hid b10
   have Hs4 := Lib.hid s4
   clear hJ hBS HBs b9 b10 b11 hW4 s4 kA kF v0 v1
   refine HJ.out.mono ?_
   rintro e w5 ⟨A5, c5, rfl, o5, b5⟩
   have HF5 := Lib.hid ((HF4.out.go b5).go (below_alloc w5 (.cells #[.slice A5 (pack BS).length c5, .int .i64 BS.length] 44)))
   have HX5 := Lib.hid ((HX.out.below b5 HX.out.lt).alloc (.cells #[.slice A5 (pack BS).length c5, .int .i64 BS.length] 44))
   have HY5 := Lib.hid (Blk.new w5 44 #[.slice A5 (pack BS).length c5, .int .i64 BS.length])
   have o6 := (o5.alloc (.cells #[.slice A5 (pack BS).length c5, .int .i64 BS.length] 44))
   go_wp2_with fail
   obtain ⟨W6, hW6⟩ : ∃ W6, W6 = w5.alloc (.cells #[.slice A5 (pack BS).length c5, .int .i64 BS.length] 44) := ⟨_, rfl⟩
   rw [← hW6] at HF5 HX5 HY5 o6 ⊢
   have z45 : w3.heap.size + 3 ≤ w5.heap.size := by have := b5.size; have := Hs4.out; omega
   have z3 := HF3.out.z
   obtain ⟨⟨m0, m1, m2, m3⟩, k0, k1, k2, k3⟩ := HF5.out.h3.quad
   obtain ⟨⟨y0, y1⟩, x0, x1⟩ := HF5.out.h2.duo
   have dq : W6.cell? ⟨w5.heap.size, 0, none⟩ = some (.slice A5 (pack BS).length c5) ∧ W6.cell? ⟨w5.heap.size, 1, none⟩ = some (.int .i64 BS.length) ∧ W6.cell? ⟨w3.heap.size + 1, 0, none⟩ = some (.bool th) ∧ W6.cell? ⟨w3.heap.size + 1, 1, none⟩ = some (.int .u64 tp) ∧ W6.cell? ⟨w3.heap.size + 1, 2, none⟩ = some (.int .u8 tl) ∧ W6.cell? ⟨w3.heap.size + 1, 3, none⟩ = some (.int .u8 tb) :=
    ⟨HY5.out.cell 0, HY5.out.cell 1, HX5.out.cell 0, HX5.out.cell 1, HX5.out.cell 2, HX5.out.cell 3⟩
   have nf1 := fun (W : World) (i j : Nat) (u : Value) => World.cell?_setCell_far W ⟨w.heap.size + 1 + 1, i, none⟩ ⟨w5.heap.size, j, none⟩ u (by simp; omega)
   have nf2 := fun (W : World) (i j : Nat) (u : Value) => World.cell?_setCell_far W ⟨w.heap.size + 1 + 1, i, none⟩ ⟨w3.heap.size + 1, j, none⟩ u (by simp; omega)
   have nf3 := fun (W : World) (i j : Nat) (u : Value) => World.cell?_setCell_far W ⟨w.heap.size + 1 + 1 + 1, i, none⟩ ⟨w5.heap.size, j, none⟩ u (by simp; omega)
   have nf4 := fun (W : World) (i j : Nat) (u : Value) => World.cell?_setCell_far W ⟨w.heap.size + 1 + 1 + 1, i, none⟩ ⟨w3.heap.size + 1, j, none⟩ u (by simp; omega)
   have ndr : ∀ (W : World) (a : Addr), W.drew.cell? a = W.cell? a := fun _ _ => rfl
   clear hW6 z45 z3
   go_region_held3 (fun w' => w'.cell? ⟨w5.heap.size, 0, none⟩ = some (.slice A5 (pack BS).length c5) ∧ w'.cell? ⟨w5.heap.size, 1, none⟩ = some (.int .i64 BS.length) ∧ w'.cell? ⟨w3.heap.size + 1, 0, none⟩ = some (.bool th) ∧ w'.cell? ⟨w3.heap.size + 1, 1, none⟩ = some (.int .u64 tp) ∧ w'.cell? ⟨w3.heap.size + 1, 2, none⟩ = some (.int .u8 tl) ∧ w'.cell? ⟨w3.heap.size + 1, 3, none⟩ = some (.int .u8 tb)) (first | (simp only [ndr]; with_reducible exact dq) | (simp only [ndr, nf1, nf2, nf3, nf4]; with_reducible exact dq)) (fail)
   go_wp2_with fail
   have FF := HF5.out.fin (.slice A5 (pack BS).length c5) (.int .i64 BS.length) (.bool th) (.int .u64 tp) (.int .u8 tl) (.int .u8 tb)
   obtain ⟨⟨s0, s1, s2, s3⟩, -⟩ := FF.h3.quad
   obtain ⟨⟨z0, z1⟩, -⟩ := FF.h2.duo
   have he : putX l m ⟨h, p, ld, b⟩ v = (pack BS, BS.length, ⟨th, tp, tl, tb⟩, 0) := by
    unfold putX
    rw [if_neg (by rw [Hs.out]; decide), if_neg (by rw [Hx.out]; decide), HMT.out, Int.toNat_natCast, ← HBS.out]
   rw [he]
   refine bodyPost_ret (v := .tuple #[.agg #[.slice A5 (pack BS).length c5, .int .i64 BS.length], .agg #[.bool th, .int .u64 tp, .int .u8 tl, .int .u8 tb], .int .u16 0]) (by simp [results, Tryz.results106, go_sem, z0, z1, s0, s1, s2, s3]) rfl ⟨⟨A5, _, c5, rfl, rfl, (o6.fin HF4.out.z (.slice A5 (pack BS).length c5) (.int .i64 BS.length) (.bool th) (.int .u64 tp) (.int .u8 tl) (.int .u8 tb)).drew⟩, FF.t.drew⟩
end Go.Proofs.YtnjcdihgaidlbaaGreatDoor
namespace Go.Proofs.YtnjcdihgaidlbaaGreatDoor
open Go.RowKit
theorem xput_M (A : Option Addr) (c : Nat) (M N : List Bool) (h : Bool) (p l b v : Nat) (T : XV) (w : World) (hE : encX ⟨h, p, l, b⟩ v = (N, T)) (hs : soundX ⟨h, p, l, b⟩ = true) (hb : Bs w A (pack M)) (hM : M.length ≤ 500000) (hv : v < 18446744073709551616) (hp : p < 18446744073709551616) (hT : Tab w) :
  Calls Tryz.prog 106 #[.agg #[.slice A (pack M).length c, .int .i64 M.length], .agg #[.bool h, .int .u64 p, .int .u8 l, .int .u8 b], .int .u64 v] w fun e w' =>
   ∃ A' c', e = .returned (.tuple #[.agg #[.slice A' (pack (M ++ N)).length c', .int .i64 ((M ++ N).length : Nat)], .agg #[.bool T.has, .int .u64 (T.prev : Nat), .int .u8 (T.lead : Nat), .int .u8 (T.width : Nat)], .int .u16 0]) ∧ OwnB w' w.heap.size (.slice A' (pack (M ++ N)).length c') (pack (M ++ N)) ∧ Below w.heap.size w w' := by
 have hlb : l < 256 ∧ b < 256 := by
  unfold soundX at hs
  cases h <;> simp at hs <;> omega
 refine (xput_any A c (pack M) M.length h p l b v w hb (by omega) (by rw [pack_length]; unfold nb; omega) hv hp hlb.1 hlb.2 hT).mono ?_
 rintro e w' ⟨⟨A', n', c', rfl, rfl, ho⟩, hB⟩
 have he : putX (pack M) M.length ⟨h, p, l, b⟩ v = (pack (M ++ N), (M ++ N).length, T, 0) := by
  unfold putX
  rw [if_neg (by rw [sound_pack]; decide), if_neg (by rw [hs]; decide), Int.toNat_natCast, bits_pack, hE]
 rw [he] at ho ⊢
 exact ⟨A', c', rfl, ho, hB⟩
end Go.Proofs.YtnjcdihgaidlbaaGreatDoor
namespace Go.Proofs.YtnjcdihgaidlbaaGreatDoor
open Go.RowKit
def kT : Kp := kP (fun w => Tab w) fun _ _ h b => tabGo h b
theorem Ks.tab {w : World} {ks : List Kp} (h : Ks w ks) (i : Nat) (e : ks[i]? = some kT := by rfl) : Tab w := (h.get i e : Tab w)
theorem Ks.tab_ {w : World} {ks : List Kp} (h : Ks w ks) (b : Tab w) : Ks w (kT :: ks) := h.cons (k := kT) b
end Go.Proofs.YtnjcdihgaidlbaaGreatDoor
namespace Go.Proofs.YtnjcdihgaidlbaaGreatDoor
open Go.RowKit
set_option maxRecDepth 100000
theorem Blk.sept {w : World} {g : Nat} {t : TypeId} {a b c d e f h : Value} (k : Blk w g t #[a, b, c, d, e, f, h]) :
  (w.cell? ⟨g, 0, none⟩ = some a ∧ w.cell? ⟨g, 1, none⟩ = some b ∧ w.cell? ⟨g, 2, none⟩ = some c ∧ w.cell? ⟨g, 3, none⟩ = some d ∧ w.cell? ⟨g, 4, none⟩ = some e ∧ w.cell? ⟨g, 5, none⟩ = some f ∧ w.cell? ⟨g, 6, none⟩ = some h) ∧
  (w.frozen? ⟨g, 0, none⟩ = false ∧ w.frozen? ⟨g, 1, none⟩ = false ∧ w.frozen? ⟨g, 2, none⟩ = false ∧ w.frozen? ⟨g, 3, none⟩ = false ∧ w.frozen? ⟨g, 4, none⟩ = false ∧ w.frozen? ⟨g, 5, none⟩ = false ∧ w.frozen? ⟨g, 6, none⟩ = false) :=
 ⟨⟨k.cell 0, k.cell 1, k.cell 2, k.cell 3, k.cell 4, k.cell 5, k.cell 6⟩, k.frozen 0, k.frozen 1, k.frozen 2, k.frozen 3, k.frozen 4, k.frozen 5, k.frozen 6⟩
def seven (w : World) (g : Nat) (a b c d e f h : Value) : World := ((((((w.setCell ⟨g, 0, none⟩ a).setCell ⟨g, 1, none⟩ b).setCell ⟨g, 2, none⟩ c).setCell ⟨g, 3, none⟩ d).setCell ⟨g, 4, none⟩ e).setCell ⟨g, 5, none⟩ f).setCell ⟨g, 6, none⟩ h
theorem Blk.set7 {w : World} {g : Nat} {t : TypeId} {a b c d e f h : Value} (k : Blk w g t #[a, b, c, d, e, f, h]) (a' b' c' d' e' f' h' : Value) : Blk (seven w g a' b' c' d' e' f' h') g t #[a', b', c', d', e', f', h'] := by
 unfold seven; simpa using ((((((k.set 0 a').set 1 b').set 2 c').set 3 d').set 4 e').set 5 f').set 6 h'
theorem below_set7 {w0 w : World} {B g : Nat} (h : Below B w0 w) (hg : B ≤ g) (a' b' c' d' e' f' h' : Value) : Below B w0 (seven w g a' b' c' d' e' f' h') :=
 ((((((h.setCell hg _).setCell hg _).setCell hg _).setCell hg _).setCell hg _).setCell hg _).setCell hg _
theorem Blk.far7 {w : World} {g k : Nat} {t : TypeId} {cs : Array Value} (h : Blk w k t cs) (hne : k ≠ g) (a' b' c' d' e' f' h' : Value) : Blk (seven w g a' b' c' d' e' f' h') k t cs :=
 ((((((h.far _ _ hne).far _ _ hne).far _ _ hne).far _ _ hne).far _ _ hne).far _ _ hne).far _ _ hne
theorem OwnB.far7 {w : World} {g base : Nat} {v : Value} {l : List UInt8} (h : OwnB w base v l) (hne : v.ownBlock ≠ some g) (a' b' c' d' e' f' h' : Value) : OwnB (seven w g a' b' c' d' e' f' h') base v l :=
 ((((((h.far (p := ⟨g, 0, none⟩) hne _).far (p := ⟨g, 1, none⟩) hne _).far (p := ⟨g, 2, none⟩) hne _).far (p := ⟨g, 3, none⟩) hne _).far (p := ⟨g, 4, none⟩) hne _).far (p := ⟨g, 5, none⟩) hne _).far (p := ⟨g, 6, none⟩) hne _
set_option maxHeartbeats 1000000 in
theorem csound_any (n la de : Int) (h : Bool) (p L X : Nat) (w : World) (hL : L < 256) (hX : X < 256) :
  Calls Tryz.prog 102 #[.agg #[.int .i64 n, .int .i64 la, .int .i64 de, .bool h, .int .u64 p, .int .u8 L, .int .u8 X]] w fun e w' => e = .returned (.bool (soundC ⟨n, la, de, ⟨h, p, L, X⟩⟩)) ∧ Below w.heap.size w w' := by
 have K := Ks.one w #[.int .i64 n, .int .i64 la, .int .i64 de, .bool h, .int .u64 p, .int .u8 L, .int .u8 X] 108
 obtain ⟨R, hR⟩ : ∃ R, R = soundC ⟨n, la, de, ⟨h, p, L, X⟩⟩ := ⟨_, rfl⟩
 rw [← hR]
 have HR := Lib.hid hR
 have HK := Lib.hid K
 obtain ⟨⟨a0, a1, a2, a3, a4, a5, a6⟩, -⟩ := (HK.out.blk 1).sept
 clear K hR
 by_cases h0 : n = 0
 ·subst h0
  have hz : (la = 0 ∧ de = 0 ∧ h = false ∧ p = 0 ∧ L = 0 ∧ X = 0) ∨ la ≠ 0 ∨ (la = 0 ∧ de ≠ 0) ∨ (la = 0 ∧ de = 0 ∧ h = true) ∨ (la = 0 ∧ de = 0 ∧ h = false ∧ p ≠ 0) ∨ (la = 0 ∧ de = 0 ∧ h = false ∧ p = 0 ∧ L ≠ 0) ∨ (la = 0 ∧ de = 0 ∧ h = false ∧ p = 0 ∧ L = 0 ∧ X ≠ 0) := by cases h <;> simp <;> omega
  rcases hz with ⟨rfl, rfl, rfl, rfl, rfl, rfl⟩ | h1 | ⟨rfl, h1⟩ | ⟨rfl, rfl, rfl⟩ | ⟨rfl, rfl, rfl, h1⟩ | ⟨rfl, rfl, rfl, rfl, h1⟩ | ⟨rfl, rfl, rfl, rfl, rfl, h1⟩
  ·skip
   go_enter Tryz.func102, Tryz.ntmps102
   go_wp2_with fail
   go_ret
   refine ⟨?_, HK.out.top 0⟩
   rw [HR.out]
   unfold soundC
   rw [if_pos rfl]
   rfl
  ·have hb : (la == 0) = false := beq_eq_false_iff_ne.2 h1
   go_enter Tryz.func102, Tryz.ntmps102
   go_wp2_with fail
   go_ret
   refine ⟨?_, HK.out.top 0⟩
   rw [HR.out]
   unfold soundC
   rw [if_pos rfl]
   simp [h1]
  ·have hb : (de == 0) = false := beq_eq_false_iff_ne.2 h1
   go_enter Tryz.func102, Tryz.ntmps102
   go_wp2_with fail
   go_ret
   refine ⟨?_, HK.out.top 0⟩
   rw [HR.out]
   unfold soundC
   rw [if_pos rfl]
   simp [h1]
  ·skip
   go_enter Tryz.func102, Tryz.ntmps102
   go_wp2_with fail
   go_ret
   refine ⟨?_, HK.out.top 0⟩
   rw [HR.out]
   unfold soundC
   rw [if_pos rfl]
   rfl
  ·have hb : ((p : Int) == 0) = false := beq_eq_false_iff_ne.2 (by omega)
   go_enter Tryz.func102, Tryz.ntmps102
   go_wp2_with fail
   go_ret
   refine ⟨?_, HK.out.top 0⟩
   rw [HR.out]
   unfold soundC
   rw [if_pos rfl]
   simp [h1]
  ·have hb : ((L : Int) == 0) = false := beq_eq_false_iff_ne.2 (by omega)
   go_enter Tryz.func102, Tryz.ntmps102
   go_wp2_with fail
   go_ret
   refine ⟨?_, HK.out.top 0⟩
   rw [HR.out]
   unfold soundC
   rw [if_pos rfl]
   simp [h1]
  ·have hb : ((X : Int) == 0) = false := beq_eq_false_iff_ne.2 (by omega)
   go_enter Tryz.func102, Tryz.ntmps102
   go_wp2_with fail
   go_ret
   refine ⟨?_, HK.out.top 0⟩
   rw [HR.out]
   unfold soundC
   rw [if_pos rfl]
   simp [h1]
 ·have k0 : (n == 0) = false := beq_eq_false_iff_ne.2 h0
  by_cases hp : 0 < n
  ·have k1 : decide ((0 : Int) < n) = true := by simpa using hp
   cases h
   ·go_enter Tryz.func102, Tryz.ntmps102
    go_wp2_with fail
    go_ret
    refine ⟨?_, HK.out.top 0⟩
    rw [HR.out]
    unfold soundC
    rw [if_neg h0]
    simp
   ·go_enter Tryz.func102, Tryz.ntmps102
    go_wp2_with fail
    refine (xsound_any true p L X _ hL hX).mono ?_
    rintro e w2 ⟨rfl, b2⟩
    replace HK := Lib.hid (HK.out.go b2)
    clear b2 a0 a1 a2 a3 a4 a5 a6
    go_wp2_with fail
    go_ret
    refine ⟨?_, HK.out.top 0⟩
    rw [HR.out]
    unfold soundC
    rw [if_neg h0]
    simp [hp]
  ·have k1 : decide ((0 : Int) < n) = false := by simp; omega
   go_enter Tryz.func102, Tryz.ntmps102
   go_wp2_with fail
   go_ret
   refine ⟨?_, HK.out.top 0⟩
   rw [HR.out]
   unfold soundC
   rw [if_neg h0]
   have : decide (0 < n) = false := by simpa using hp
   simp [this]
set_option maxHeartbeats 1000000 in
theorem cafter_any (n la de t : Int) (hh : Bool) (p L X : Nat) (w : World) (hn : in64 n) (hla : in64 la) (hde : in64 de) (ht : in64 t) :
  Calls Tryz.prog 103 #[.agg #[.int .i64 n, .int .i64 la, .int .i64 de, .bool hh, .int .u64 p, .int .u8 L, .int .u8 X], .int .i64 t] w fun e w' =>
   e = .returned (.agg #[.int .i64 (w64 (n + 1)), .int .i64 t, .int .i64 (if n = 0 then de else w64 (t - la)), .bool hh, .int .u64 p, .int .u8 L, .int .u8 X]) ∧ Below w.heap.size w w' := by
 have f1 : IntKind.i64.wrap (n + 1) = w64 (n + 1) := by rw [IntKind.wrap_i64]; rfl
 have f2 : IntKind.i64.wrap (t - la) = w64 (t - la) := by rw [IntKind.wrap_i64]; rfl
 obtain ⟨n1, hn1⟩ : ∃ x, x = w64 (n + 1) := ⟨_, rfl⟩
 obtain ⟨d1, hd1⟩ : ∃ x, x = w64 (t - la) := ⟨_, rfl⟩
 rw [← hn1] at f1 ⊢
 rw [← hd1] at f2 ⊢
 have HN := Lib.hid hn1
 have HD := Lib.hid hd1
 clear hn1 hd1
 have K := Ks.two w #[.int .i64 n, .int .i64 la, .int .i64 de, .bool hh, .int .u64 p, .int .u8 L, .int .u8 X] #[.int .i64 0, .int .i64 0, .int .i64 0, .bool false, .int .u64 0, .int .u8 0, .int .u8 0] 108 108
 have HK := Lib.hid K
 obtain ⟨⟨a0, a1, a2, a3, a4, a5, a6⟩, -⟩ := (HK.out.blk 1).sept
 clear K
 by_cases h0 : n = 0
 ·subst h0
  go_enter Tryz.func103, Tryz.ntmps103
  go_wp2_with fail
  refine bodyPost_ret (v := .agg #[.int .i64 1, .int .i64 t, .int .i64 de, .bool hh, .int .u64 p, .int .u8 L, .int .u8 X]) (by simp [results, Tryz.results103, go_sem]) rfl ⟨by rw [HN.out]; rfl, ((below_alloc w _).alloc (by simp) _).alloc (by simp; omega) _⟩
 ·have k0 : (n == 0) = false := beq_eq_false_iff_ne.2 h0
  rw [if_neg h0]
  go_enter Tryz.func103, Tryz.ntmps103
  go_wp2_with fail
  refine bodyPost_ret (v := .agg #[.int .i64 n1, .int .i64 t, .int .i64 d1, .bool hh, .int .u64 p, .int .u8 L, .int .u8 X]) (by simp [results, Tryz.results103, go_sem]) rfl ⟨rfl, ((below_alloc w _).alloc (by simp) _).alloc (by simp; omega) _⟩
end Go.Proofs.YtnjcdihgaidlbaaGreatDoor
