/- Joined: Chk16. -/
import Derived.Test.YtmcdollkmlcpbaaGreatDoorQ34
import Derived.Test.YtmcdollkmlcpbaaGreatDoorQ33
import Derived.Deep.RegionHeld3
import Derived.Test.YtmcdollkmlcpbaaGreatDoorQ32
import Derived.Test.YtmcdollkmlcpbaaGreatDoorQ7
import Derived.Test.YtmcdollkmlcpbaaGreatDoorQ4
import Derived.Test.YtmcdollkmlcpbaaGreatDoorQ24
import Derived.Test.YtmcdollkmlcpbaaGreatDoorQ35
import Derived.Sort.CutIn
set_option linter.unusedSimpArgs false
set_option linter.unusedVariables false
namespace Go.Proofs.YtmcdollkmlcpbaaGreatDoor
open Go.RowKit Go.Shelf
set_option maxRecDepth 100000
attribute [local go_sem] Oper.semAt_some
def rdC (l : List UInt8) (m : Nat) : Nat → EC → Nat → List RC
 | 0, _, _ => []
 | f + 1, e, a => if m ≤ a then [] else gotC l m e a :: (if (gotC l m e a).c = 0 then rdC l m f (gotC l m e a).e (gotC l m e a).nd.toNat else [])
def rdsC (l : List UInt8) (nb : Int) : List RC := if soundB l nb = false then [rc0 11] else rdC l nb.toNat nb.toNat ec0 0
structure KpR (n0 : Nat) (W W' : World) : Prop where
 below : Below n0 W W'
 rd : ∀ k cs, Blk W k 122 cs → Blk W' k 122 cs
 bits : ∀ k cs, Blk W k 33 cs → Blk W' k 33 cs
theorem got_good {l : List UInt8} {m a : Nat} {e : EC} (he : OkC e) (hn : 0 ≤ e.n ∧ e.n < 1000000) (ha : a ≤ m) (h0 : (gotC l m e a).c = 0) :
  OkC (gotC l m e a).e ∧ (gotC l m e a).e.n = e.n + 1 ∧ ∃ k, (gotC l m e a).nd = ((a + k : Nat) : Int) ∧ 2 ≤ k ∧ a + k ≤ m := by
 unfold gotC at h0 ⊢
 rw [if_neg (by omega), Int.toNat_natCast] at h0 ⊢
 cases hd : decC e ((bitl l m).drop a) with
 | none => rw [hd] at h0; simp [rc0] at h0
 | some p =>
  obtain ⟨t, v, k, e'⟩ := p
  rw [hd] at h0
  obtain ⟨k1, k2, k3, k4, k5, k6, k7⟩ := decC_only he hd
  rw [List.length_drop, bitl_length] at k1
  obtain ⟨h1, h2, -⟩ := encC_ok he ⟨hn.1, by omega⟩ k3 k4
  rw [k2] at h1 h2
  exact ⟨h1, h2, k, rfl, k5, by omega⟩
theorem got_bd {l : List UInt8} {m a : Nat} {e : EC} (he : OkC e) (hn : 0 ≤ e.n ∧ e.n < 1000000) (ha : a ≤ m) : (gotC l m e a).e.val.lead < 256 ∧ (gotC l m e a).e.val.width < 256 := by
 by_cases h0 : (gotC l m e a).c = 0
 ·have h := (got_good he hn ha h0).1.val
  unfold soundX at h
  split at h <;> simp only [decide_eq_true_eq] at h <;> omega
 ·have : gotC l m e a = rc0 61 := by
   unfold gotC at h0 ⊢
   rw [if_neg (by omega)] at h0 ⊢
   split at h0
   ·rfl
   ·exact absurd rfl h0
  rw [this]
  decide
set_option maxHeartbeats 4000000 in
theorem rds1_in (n : Nat) (hn : 1 ≤ n) (l0 Bn : Nat) (w0 : World) (A : Option Addr) (c : Nat) (bs : List UInt8) (nb : Int) (hbs : Bs w0 A bs) (hnb : in64 nb) (hlen : bs.length ≤ 100000) (hT : Tab w0)
  (J Jx : List RC → World → Prop) (W : World) (hJ : ∀ s A C, J s A → StepT W.heap.size 122 A C → J s C)
  (hY : ∀ pre x W1, J pre W1 → pre.length < 800001 → YieldAt Fence.wide (n - 1) Tryz.prog l0 #[.agg x.cells] W1 fun e W' =>
   (e = .returned (.bool true) ∧ J (pre ++ [x]) W' ∧ KpR w0.heap.size W1 W') ∨ (e = .returned (.bool false) ∧ Jx (pre ++ [x]) W'))
  (hW : Below w0.heap.size w0 W) (hBn : Blk W Bn 33 #[.slice A bs.length c, .int .i64 nb]) (h0 : J [] W) :
  CallsIn Fence.wide n Tryz.prog 61 #[.func (.yield l0) #[] #[], .pointer (some ⟨Bn, 0, none⟩)] W fun e W' => (∃ v, e = .returned v) ∧
   ((∃ ys, ys = rdsC bs nb ∧ J ys W') ∨ (∃ pre, pre <+: rdsC bs nb ∧ Jx pre W')) := by
 have hlm : bs.length ≤ maxLen := by unfold maxLen; omega
 unfold in64 at hnb
 have HB := Lib.hid hbs
 have HT := Lib.hid hT
 have HJ := Lib.hid hJ
 have HY := Lib.hid hY
 have HBn := Lib.hid hBn
 obtain ⟨R, hR⟩ : ∃ R, R = rdsC bs nb := ⟨_, rfl⟩
 rw [← hR]
 have HR := Lib.hid hR
 clear hbs hT hJ hY hR hBn
 obtain ⟨⟨v0, v1⟩, -⟩ := HBn.out.duo
 cases hs : soundB bs nb
 ·have hR2 : R = [rc0 11] := by rw [HR.out]; unfold rdsC; rw [if_pos hs]
  have HR2 := Lib.hid hR2
  have Hs := Lib.hid hs
  clear hR2 hs
  refine callsIn_of_wp Tryz.func61 rfl trivial ?_ rfl
  simp only [Tryz.ntmps61, List.size_toArray, List.length_cons, List.length_nil, Nat.reduceAdd, Nat.reduceSub, Array.replicate_succ, Array.replicate_zero, List.push_toArray, List.append_toArray, List.nil_append, List.cons_append]
  gi_wp2_with (refine ⟨trivial, ?_⟩; gi_at_call 57; refine (callsIn_wide.2 (sound_any A c bs nb _ (HB.out.below hW) hnb hlm)).mono ?_; rw [Hs.out]; rintro e w1 ⟨rfl, b1⟩)
  have HK := Lib.hid ((Qs.zero W).go b1)
  have hJ1 := HJ.out _ _ _ h0 (.grown b1)
  clear b1
  gi_wp2_with (refine ⟨trivial, ?_⟩; gi_at_call 62; refine (callsIn_wide.2 (crefused_any 11 _)).mono ?_; rintro e w2 ⟨rfl, b2⟩; have hJ2 := HJ.out _ _ _ hJ1 (.grown b2); obtain ⟨fn, tmps, assign, body, hy, hR⟩ := HY.out [] (rc0 11) w2 hJ2 (by simp); rw [show (rc0 11).cells = #[.int .i64 0, .int .u64 0, .int .i64 0, .int .i64 0, .int .i64 0, .int .i64 0, .bool false, .int .u64 0, .int .u8 0, .int .u8 0, .int .u16 11] from rfl] at hy; have HRr := Lib.hid hR; clear hR)
  refine HRr.out.mono ?_
  rintro e W3 (⟨rfl, hJ3, hk3⟩ | ⟨rfl, hJx3⟩)
  ·gi_wp2
   refine bodyPost_ret (results_none rfl _ _ _) rfl ?_
   exact ⟨⟨_, rfl⟩, .inl ⟨_, by rw [HR2.out]; rfl, hJ3⟩⟩
  ·gi_wp2
   refine bodyPost_ret (results_none rfl _ _ _) rfl ?_
   exact ⟨⟨_, rfl⟩, .inr ⟨_, by rw [HR2.out]; exact List.prefix_refl _, hJx3⟩⟩
 ·obtain ⟨m, rfl, hm8, -⟩ := sound_nat hs
  have hR2 : R = rdC bs m m ec0 0 := by rw [HR.out]; unfold rdsC; rw [if_neg (by rw [hs]; decide), Int.toNat_natCast]
  have HR2 := Lib.hid hR2
  have Hs := Lib.hid hs
  clear hR2 hs HR
  refine callsIn_of_wp Tryz.func61 rfl trivial ?_ rfl
  simp only [Tryz.ntmps61, List.size_toArray, List.length_cons, List.length_nil, Nat.reduceAdd, Nat.reduceSub, Array.replicate_succ, Array.replicate_zero, List.push_toArray, List.append_toArray, List.nil_append, List.cons_append]
  gi_wp2_with (refine ⟨trivial, ?_⟩; gi_at_call 57; refine (callsIn_wide.2 (sound_any A c bs m _ (HB.out.below hW) hnb hlm)).mono ?_; rw [Hs.out]; rintro e w1 ⟨rfl, b1⟩)
  have HK := Lib.hid ((((Qs.zero W).cons (k := qB Bn 33 _) HBn.out).go b1).box #[.int .i64 0, .int .u64 0, .int .i64 0, .int .i64 0, .int .i64 0, .int .i64 0, .bool false, .int .u64 0, .int .u8 0, .int .u8 0, .int .u16 0] 122)
  have hJ1 := HJ.out _ _ _ (HJ.out _ _ _ h0 (.grown b1)) (StepT.alloc _ (.cells #[.int .i64 0, .int .u64 0, .int .i64 0, .int .i64 0, .int .i64 0, .int .i64 0, .bool false, .int .u64 0, .int .u8 0, .int .u8 0, .int .u16 0] 122))
  have z1 := b1.size
  have hlB := HBn.out.lt
  have hWa : Below w0.heap.size w0 (w1.alloc (.cells #[.int .i64 0, .int .u64 0, .int .i64 0, .int .i64 0, .int .i64 0, .int .i64 0, .bool false, .int .u64 0, .int .u8 0, .int .u8 0, .int .u16 0] 122)) := (hW.trans (b1.mono hW.size)).trans ((below_alloc w1 _).mono (by have := hW.size; omega))
  clear b1 v0 v1
  gi_wp2
  gi_loopw [14] (fun s0 wr => ∃ (pre : List RC) (f a : Nat) (r : RC), J pre wr ∧ Below w0.heap.size w0 wr ∧ Blk wr Bn 33 #[.slice A bs.length c, .int .i64 m] ∧ Blk wr w1.heap.size 122 r.cells ∧ r.c = 0 ∧ r.nd = (a : Int) ∧ a ≤ m ∧ pre.length ≤ a ∧ r.e.n = pre.length ∧ m ≤ a + f ∧ Hid (OkC r.e) ∧ Hid (R = pre ++ rdC bs m f r.e a))
   (fun _ wr => m - (intOf ((wr.cell? ⟨w1.heap.size, 2, none⟩).getD undef)).toNat)
  case atStart => exact ⟨[], m, 0, rc0 0, hJ1, hWa, HK.out.blk 1, HK.out.blk 0, rfl, rfl, Nat.zero_le _, Nat.le_refl _, rfl, by omega, Lib.hid ok0, HR2⟩
  case round =>
   obtain ⟨pre, f, a, ⟨rt, rv, rn, ⟨en, el, ed, ⟨eh, ep, eL, eX⟩⟩, rc⟩, hJr, tB, hb1, hb2, rfl, rfl, ham, hpl, hen, hmf, hok, HRr⟩ := hrel
   dsimp only at hok hen HRr
   simp only [RC.cells] at hb2
   clear hJ1 hWa HK HR2
   have HK := Lib.hid ((((Qs.nil wr).cons (k := qW w0 w0.heap.size (Nat.le_refl _)) ⟨tB, tB.size⟩).cons (k := qB _ _ _) hb1).cons (k := qB _ _ _) hb2)
   have hms : (intOf ((wr.cell? ⟨w1.heap.size, 2, none⟩).getD undef)).toNat = a := by rw [hb2.cell 2]; simp [intOf]
   have Hms := Lib.hid hms
   have zw := hb2.lt
   clear hms tB hb1 hb2
   have C := HK.out.says
   simp only [sayAll, cellsSay, qB, qW, qO, qR, qZ, Nat.reduceAdd, and_true, true_and] at C
   rcases Nat.lt_or_ge a m with hlt | hge
   ·obtain ⟨f, rfl⟩ : ∃ f', f = f' + 1 := ⟨f - 1, by omega⟩
    have ka : (a : Int) < (m : Int) := by omega
    have hgb := got_bd (l := bs) hok.out ⟨by show 0 ≤ en; omega, by show en < 1000000; omega⟩ ham
    have hgg := got_good (l := bs) hok.out ⟨by show 0 ≤ en; omega, by show en < 1000000; omega⟩ ham
    have hsm := OkC.small hok.out
    have Hen := Lib.hid hen
    have hpx : pre.length < 800001 := by omega
    clear hen
    obtain ⟨⟨xt, xv, xn, ⟨fn, fl, fd, ⟨fh, fp, fL, fX⟩⟩, xc⟩, hx⟩ : ∃ x, x = gotC bs m ⟨en, el, ed, ⟨eh, ep, eL, eX⟩⟩ a := ⟨_, rfl⟩
    have hRx : R = pre ++ (⟨xt, xv, xn, ⟨fn, fl, fd, ⟨fh, fp, fL, fX⟩⟩, xc⟩ :: (if xc = 0 then rdC bs m f ⟨fn, fl, fd, ⟨fh, fp, fL, fX⟩⟩ xn.toNat else [])) := by
     have h2 := HRr.out
     have hu : rdC bs m (f + 1) ⟨en, el, ed, ⟨eh, ep, eL, eX⟩⟩ a = if m ≤ a then [] else gotC bs m ⟨en, el, ed, ⟨eh, ep, eL, eX⟩⟩ a :: (if (gotC bs m ⟨en, el, ed, ⟨eh, ep, eL, eX⟩⟩ a).c = 0 then rdC bs m f (gotC bs m ⟨en, el, ed, ⟨eh, ep, eL, eX⟩⟩ a).e (gotC bs m ⟨en, el, ed, ⟨eh, ep, eL, eX⟩⟩ a).nd.toNat else []) := rfl
     rw [hu, if_neg (by omega), ← hx] at h2
     exact h2
    have hD := cdecode_any A c bs m (a : Int) en el ed eh ep eL eX wr (HB.out.below (HK.out.top 2)) Hs.out hlen (by unfold in64; omega) hok.out hsm.1 hsm.2 (tabGo HT.out (HK.out.top 2))
    rw [← hx] at hD hgg hgb
    dsimp only at hgg hgb
    simp only [RC.cells] at hD
    have HD := Lib.hid hD
    have HRx := Lib.hid hRx
    have Hgg := Lib.hid hgg
    clear hx hRx hD hgg hgb hok HRr
    gi_upto_region 5 with (refine ⟨trivial, ?_⟩; gi_at_call 63; refine (callsIn_wide.2 HD.out).mono ?_; rintro e w2 ⟨rfl, b2⟩; have HK2 := Lib.hid (HK.out.go b2); have hJ2 := HJ.out _ _ _ hJr (.grown b2); have z2 := b2.size; clear C HD b2; have C := HK2.out.says; simp only [sayAll, cellsSay, qB, qW, qO, qR, qZ, Nat.reduceAdd, and_true, true_and] at C)
    generalize hW5 : World.setCell _ _ _ = W5
    have K5 := HK2.out.putTo 0 w1.heap.size [(0, .int .i64 xt), (1, .int .u64 xv), (2, .int .i64 xn), (3, .int .i64 fn), (4, .int .i64 fl), (5, .int .i64 fd), (6, .bool fh), (7, .int .u64 fp), (8, .int .u8 fL), (9, .int .u8 fX), (10, .int .u16 xc)] #[.int .i64 xt, .int .u64 xv, .int .i64 xn, .int .i64 fn, .int .i64 fl, .int .i64 fd, .bool fh, .int .u64 fp, .int .u8 fL, .int .u8 fX, .int .u16 xc] hW5 (by simp only [apBut, apAll, qB, qW, qO, qR, qZ, and_true]; have := hW.size; omega)
    have hst0 := StepT.store (B := W.heap.size) (HK2.out.blk 0) z1 [(0, .int .i64 xt), (1, .int .u64 xv), (2, .int .i64 xn), (3, .int .i64 fn), (4, .int .i64 fl), (5, .int .i64 fd), (6, .bool fh), (7, .int .u64 fp), (8, .int .u8 fL), (9, .int .u8 fX), (10, .int .u16 xc)]
    have hst : StepT W.heap.size 122 w2 W5 := hW5 ▸ hst0
    clear hst0
    have hJ5 := HJ.out _ _ _ hJ2 hst
    simp only [List.set] at K5
    have HK5 := Lib.hid K5
    clear hW5 C K5 hst hJ2 HK2 HK hJr
    have C := HK5.out.says
    simp only [sayAll, cellsSay, qB, qW, qO, qR, qZ, Nat.reduceAdd, and_true, true_and] at C
    obtain ⟨fn', tmps, assign, body, hy, hR⟩ := HY.out pre ⟨xt, xv, xn, ⟨fn, fl, fd, ⟨fh, fp, fL, fX⟩⟩, xc⟩ W5 hJ5 hpx
    simp only [RC.cells] at hy
    have HRd := Lib.hid hR
    clear hR
    gi_wp2
    refine HRd.out.mono ?_
    clear HRd hy
    rintro e W3 (⟨rfl, hJ3, hk3⟩ | ⟨rfl, hJx3⟩)
    ·have hB3 := hk3.rd _ _ (HK5.out.blk 0)
     have hN3 := hk3.bits _ _ (HK5.out.blk 1)
     have tB3 := (HK5.out.top 2).trans hk3.below
     have HK3 := Lib.hid ((((Qs.nil W3).cons (k := qW w0 w0.heap.size (Nat.le_refl _)) ⟨tB3, tB3.size⟩).cons (k := qB _ _ _) hN3).cons (k := qB _ _ _) hB3)
     have hm3 := Lib.hid (hB3.cell 2)
     clear C hB3 hN3 tB3 hk3
     have C := HK3.out.says
     simp only [sayAll, cellsSay, qB, qW, qO, qR, qZ, Nat.reduceAdd, and_true, true_and] at C
     by_cases hc : xc = 0
     ·obtain ⟨g1, g2, k, rfl, g4, g5⟩ := Hgg.out hc
      have hRx := HRx.out
      rw [if_pos hc, Int.toNat_natCast] at hRx
      subst hc
      have HRy := Lib.hid hRx
      have Hg1 := Lib.hid g1
      have Hg2 := Lib.hid g2
      clear hRx g1 g2 HRx Hgg
      gi_wp2
      go_roundw
      case rel => exact ⟨_, f, a + k, ⟨xt, xv, ((a + k : Nat) : Int), ⟨fn, fl, fd, ⟨fh, fp, fL, fX⟩⟩, 0⟩, hJ3, HK3.out.top 2, HK3.out.blk 1, HK3.out.blk 0, rfl, rfl, g5, by rw [List.length_append]; simp; omega, by rw [List.length_append]; have := Hg2.out; have := Hen.out; simp; omega, by omega, Hg1, Lib.hid (by rw [HRy.out]; simp)⟩
      case measure =>
       have e1 : (intOf ((W3.cell? ⟨w1.heap.size, 2, none⟩).getD undef)).toNat = a + k := by rw [hm3.out]; simp [intOf]; omega
       rw [Hms.out, e1]
       omega
     ·have hRx := HRx.out
      rw [if_neg hc] at hRx
      have HRy := Lib.hid hRx
      have kc : ((xc : Int) == 0) = false := beq_eq_false_iff_ne.2 (by omega)
      have kd : ((xc : Int) != 0) = true := by simpa using hc
      clear hRx hc HRx Hgg
      gi_wp2
      refine bodyPost_ret (results_none rfl _ _ _) rfl ?_
      exact ⟨⟨_, rfl⟩, .inl ⟨_, HRy.out.symm, hJ3⟩⟩
    ·gi_wp2
     refine bodyPost_ret (results_none rfl _ _ _) rfl ?_
     exact ⟨⟨_, rfl⟩, .inr ⟨_, by rw [HRx.out]; exact List.prefix_append_right_inj _ |>.2 (List.prefix_cons_inj _ |>.2 (List.nil_prefix)), hJx3⟩⟩
   ·obtain rfl : a = m := by omega
    have hRf : R = pre := by
     rw [HRr.out]
     cases f with
     | zero => simp [rdC]
     | succ f => simp [rdC]
    have HRf := Lib.hid hRf
    clear hRf HRr
    gi_wp2
    refine bodyPost_end (results_none rfl _ _ _) rfl ?_
    exact ⟨⟨_, rfl⟩, .inl ⟨pre, HRf.out.symm, hJr⟩⟩
end Go.Proofs.YtmcdollkmlcpbaaGreatDoor
