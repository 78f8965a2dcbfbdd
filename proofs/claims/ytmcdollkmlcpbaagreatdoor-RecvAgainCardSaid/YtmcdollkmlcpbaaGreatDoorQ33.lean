/- Joined: Chk5, Chk6, Chk2, Chk3. -/
import Derived.Test.YtmcdollkmlcpbaaGreatDoorQ32
import Derived.Test.YtmcdollkmlcpbaaGreatDoorQ25
import Derived.Test.YtmcdollkmlcpbaaGreatDoorQ7
import Derived.Deep.RegionHeld3
set_option linter.unusedSimpArgs false
set_option linter.unusedVariables false
namespace Go.Proofs.YtmcdollkmlcpbaaGreatDoor
open Go.RowKit
set_option maxRecDepth 100000
def DtOut (l : List UInt8) (m : Nat) (e : EC) (at_ : Int) (en : Ending) : Prop :=
 (∃ (t : Int) (a k : Nat), en = .returned (.tuple #[.int .i64 t, .int .i64 ((a + k : Nat) : Int), .bool true]) ∧ at_ = a ∧ a + k ≤ m ∧ in64 t ∧ dtC e ((bitl l m).drop a) = some (t, k)) ∨
 (∃ t x : Int, en = .returned (.tuple #[.int .i64 t, .int .i64 x, .bool false]) ∧ (at_ < 0 ∨ (m : Int) < at_ ∨ dtC e ((bitl l m).drop at_.toNat) = none))
set_option maxHeartbeats 1000000 in
theorem cdt_any (A : Option Addr) (c : Nat) (l : List UInt8) (m : Nat) (at_ n la de : Int) (h : Bool) (p L X : Nat) (w : World) (hb : Bs w A l) (hs : soundB l (m : Int) = true) (hl : l.length ≤ 100000) (ha : in64 at_) (hn : in64 n) (hla : in64 la) (hde : in64 de) :
  Calls Tryz.prog 74 #[.agg #[.slice A l.length c, .int .i64 m], .int .i64 at_, .agg #[.int .i64 n, .int .i64 la, .int .i64 de, .bool h, .int .u64 p, .int .u8 L, .int .u8 X]] w fun e w' => DtOut l m ⟨n, la, de, ⟨h, p, L, X⟩⟩ at_ e ∧ Below w.heap.size w w' := by
 have K := ((Qs.zero w).box #[.slice A l.length c, .int .i64 m] 33).box #[.int .i64 n, .int .i64 la, .int .i64 de, .bool h, .int .u64 p, .int .u8 L, .int .u8 X] 88
 simp only [World.size_alloc] at K
 obtain ⟨hm8, hlen⟩ : m ≤ 8 * l.length ∧ ∀ a, a ≤ m → ((bitl l m).drop a).length = m - a := by
  obtain ⟨m', e, h8, -⟩ := sound_nat hs
  exact ⟨by omega, fun a _ => by rw [List.length_drop, bitl_length]⟩
 have HB := Lib.hid hb
 have Hs := Lib.hid hs
 have HL := Lib.hid hlen
 clear hb hs hlen
 unfold in64 at ha
 by_cases h0 : n = 0
 ·subst h0
  go_enter Tryz.func74, Tryz.ntmps74
  have C := K.says
  simp only [sayAll, cellsSay, qB, qW, qO, qZ, Nat.reduceAdd, and_true] at C
  have HK := Lib.hid K
  clear K
  go_wp2_with fail
  generalize (w.alloc (.cells #[.slice A l.length c, .int .i64 m] 33)).alloc (.cells #[.int .i64 0, .int .i64 la, .int .i64 de, .bool h, .int .u64 p, .int .u8 L, .int .u8 X] 88) = W0 at *
  clear C
  have hG := get_any A c l m at_ 64 W0 (HB.out.below (HK.out.top 2)) (by omega) (by omega) (by omega) (by omega)
  by_cases ho : at_ < 0 ∨ (m : Int) < at_
  ·rw [get_out Hs.out ho (by omega)] at hG
   refine hG.mono ?_
   rintro e w1 ⟨rfl, b1⟩
   clear hG
   go_wp2_with fail
   go_ret3
   refine ⟨Or.inr ⟨_, _, rfl, ?_⟩, on1 (HK.out.top 2) b1⟩
   rcases ho with ho | ho
   ·exact Or.inl ho
   ·exact Or.inr (Or.inl ho)
  ·obtain ⟨a, rfl⟩ := Int.eq_ofNat_of_zero_le (show 0 ≤ at_ by omega)
   have hfr := get_front (d := 64) Hs.out (show a ≤ m by omega) (by omega)
   rw [show ((64 : Nat) : Int) = 64 from rfl] at hfr
   rw [hfr] at hG
   by_cases hr : ((bitl l m).drop a).length < 64
   ·rw [if_pos hr] at hG
    refine hG.mono ?_
    rintro e w1 ⟨rfl, b1⟩
    clear hG hfr
    go_wp2_with fail
    go_ret3
    refine ⟨Or.inr ⟨_, _, rfl, Or.inr (Or.inr ?_)⟩, on1 (HK.out.top 2) b1⟩
    unfold dtC
    rw [if_pos rfl, Int.toNat_natCast, if_pos hr]
   ·rw [if_neg hr] at hG
    obtain ⟨N, hN⟩ : ∃ N, N = numB (((bitl l m).drop a).take 64) := ⟨_, rfl⟩
    rw [← hN] at hG
    obtain ⟨t, ht⟩ : ∃ t, t = w64 (N : Int) := ⟨_, rfl⟩
    have j1 : IntKind.i64.wrap (N : Int) = t := by rw [IntKind.wrap_i64, ht]; rfl
    have hle : a + 64 ≤ m := by have := HL.out a (by omega); omega
    obtain ⟨x, hx⟩ : ∃ x, x = a + 64 := ⟨_, rfl⟩
    have j2 : IntKind.i64.wrap ((a : Int) + 64) = (x : Int) := by rw [IntKind.wrap_i64]; omega
    refine hG.mono ?_
    rintro e w1 ⟨rfl, b1⟩
    have HN := Lib.hid hN
    have Ht := Lib.hid ht
    have Hx := Lib.hid hx
    clear hG hfr hN ht hx
    go_wp2_with fail
    go_ret3
    refine ⟨Or.inl ⟨t, a, 64, by rw [Hx.out]; rfl, rfl, hle, by rw [Ht.out]; exact w64_in _, ?_⟩, on1 (HK.out.top 2) b1⟩
    unfold dtC
    rw [if_pos rfl, if_neg hr, ← HN.out, ← Ht.out]
 ·have k0 : (n == 0) = false := beq_eq_false_iff_ne.2 h0
  go_enter Tryz.func74, Tryz.ntmps74
  have C := K.says
  simp only [sayAll, cellsSay, qB, qW, qO, qZ, Nat.reduceAdd, and_true] at C
  have HK := Lib.hid K
  clear K
  go_wp2_with fail
  generalize (w.alloc (.cells #[.slice A l.length c, .int .i64 m] 33)).alloc (.cells #[.int .i64 n, .int .i64 la, .int .i64 de, .bool h, .int .u64 p, .int .u8 L, .int .u8 X] 88) = W0 at *
  clear C
  have hG := zget_any A c l m at_ W0 (HB.out.below (HK.out.top 2)) (by omega) (by omega) (by omega)
  obtain ⟨S, hS⟩ : ∃ S, S = zgetSpec l m at_ := ⟨_, rfl⟩
  rw [← hS] at hG
  obtain ⟨d, x, cd⟩ := S
  simp only at hG
  obtain ⟨s1, hs1⟩ : ∃ s, s = w64 (la + de) := ⟨_, rfl⟩
  have j1 : IntKind.i64.wrap (la + de) = s1 := by rw [IntKind.wrap_i64, hs1]; rfl
  obtain ⟨t, ht⟩ : ∃ s, s = w64 (s1 + d) := ⟨_, rfl⟩
  have j2 : IntKind.i64.wrap (s1 + d) = t := by rw [IntKind.wrap_i64, ht]; rfl
  have Hz := Lib.hid hS
  have Hs1 := Lib.hid hs1
  have Ht := Lib.hid ht
  clear hS hs1 ht
  refine hG.mono ?_
  rintro e w1 ⟨rfl, b1⟩
  replace HK := Lib.hid (HK.out.go b1)
  have C := HK.out.says
  simp only [sayAll, cellsSay, qB, qW, qO, qZ, Nat.reduceAdd, and_true] at C
  clear hG b1
  by_cases hc : cd = 0
  ·subst hc
   go_wp2_with fail
   go_ret3
   have hz := Hz.out
   unfold zgetSpec at hz
   rw [if_neg (by rw [Hs.out]; decide)] at hz
   by_cases ho : at_ < 0 ∨ (m : Int) < at_
   ·rw [if_pos ho] at hz; cases hz
   ·rw [if_neg ho] at hz
    obtain ⟨a, rfl⟩ := Int.eq_ofNat_of_zero_le (show 0 ≤ at_ by omega)
    rw [Int.toNat_natCast, Int.toNat_natCast] at hz
    unfold zres at hz
    split at hz
    ·rename_i hzz
     simp only [Prod.mk.injEq, and_true] at hz
     obtain ⟨z1, z2⟩ := hz
     refine ⟨Or.inl ⟨t, a, (zget ((bitl l m).drop a)).2.1, by rw [z2]; rfl, rfl, ?_, by rw [Ht.out]; exact w64_in _, ?_⟩, HK.out.top 2⟩
     ·have := zget_len ((bitl l m).drop a)
      have := HL.out a (by omega)
      omega
     ·unfold dtC
      rw [if_neg h0, if_pos hzz, ← z1, Ht.out, Hs1.out]
      simp only [Option.some.injEq, Prod.mk.injEq, and_true]
      unfold w64; omega
    ·rename_i hzz
     simp only [Prod.mk.injEq] at hz
     exact absurd hz.2.2.symm hzz
  ·have kc : ((cd : Int) == 0) = false := beq_eq_false_iff_ne.2 (by omega)
   go_wp2_with fail
   go_ret3
   refine ⟨Or.inr ⟨_, _, rfl, ?_⟩, HK.out.top 2⟩
   by_cases ho : at_ < 0 ∨ (m : Int) < at_
   ·rcases ho with ho | ho
    ·exact Or.inl ho
    ·exact Or.inr (Or.inl ho)
   ·refine Or.inr (Or.inr ?_)
    have hz := Hz.out
    unfold zgetSpec at hz
    rw [if_neg (by rw [Hs.out]; decide), if_neg ho] at hz
    unfold dtC
    rw [if_neg h0, if_neg]
    intro h1
    unfold zres at hz
    rw [Int.toNat_natCast] at hz
    rw [if_pos h1] at hz
    simp only [Prod.mk.injEq] at hz
    exact hc hz.2.2
end Go.Proofs.YtmcdollkmlcpbaaGreatDoor
namespace Go.Proofs.YtmcdollkmlcpbaaGreatDoor
open Go.RowKit
set_option maxRecDepth 100000
structure RC where
 t : Int
 v : Nat
 nd : Int
 e : EC
 c : Nat
def RC.cells (R : RC) : Array Value := #[.int .i64 R.t, .int .u64 R.v, .int .i64 R.nd, .int .i64 R.e.n, .int .i64 R.e.last, .int .i64 R.e.delta, .bool R.e.val.has, .int .u64 R.e.val.prev, .int .u8 R.e.val.lead, .int .u8 R.e.val.width, .int .u16 R.c]
def rc0 (c : Nat) : RC := ⟨0, 0, 0, ec0, c⟩
def gotC (l : List UInt8) (m : Nat) (e : EC) (at_ : Int) : RC :=
 if at_ < 0 ∨ (m : Int) < at_ then rc0 61 else match decC e ((bitl l m).drop at_.toNat) with
  | none => rc0 61
  | some (t, v, k, e') => ⟨t, v, at_ + k, e', 0⟩
theorem crefused_any (c : Nat) (w : World) :
  Calls Tryz.prog 62 #[.int .u16 c] w fun e w' => e = .returned (.agg #[.int .i64 0, .int .u64 0, .int .i64 0, .int .i64 0, .int .i64 0, .int .i64 0, .bool false, .int .u64 0, .int .u8 0, .int .u8 0, .int .u16 c]) ∧ Below w.heap.size w w' := by
 have HK := Lib.hid ((Qs.zero w).box #[.int .i64 0, .int .u64 0, .int .i64 0, .int .i64 0, .int .i64 0, .int .i64 0, .bool false, .int .u64 0, .int .u8 0, .int .u8 0, .int .u16 0] 122)
 have C := HK.out.says
 simp only [sayAll, cellsSay, qB, qW, qO, qZ, Nat.reduceAdd, and_true] at C
 go_enter Tryz.func62, Tryz.ntmps62
 go_wp2_with fail
 exact bodyPost_ret (v := .agg #[.int .i64 0, .int .u64 0, .int .i64 0, .int .i64 0, .int .i64 0, .int .i64 0, .bool false, .int .u64 0, .int .u8 0, .int .u8 0, .int .u16 c]) (by simp [results, Tryz.results62, go_sem]) rfl ⟨rfl, below_alloc w _⟩
set_option maxHeartbeats 8000000 in
theorem cdecode_any (A : Option Addr) (c : Nat) (l : List UInt8) (m : Nat) (at_ n la de : Int) (h : Bool) (p L X : Nat) (w : World) (hb : Bs w A l) (hs : soundB l (m : Int) = true) (hl : l.length ≤ 100000) (ha : in64 at_) (hok : OkC ⟨n, la, de, ⟨h, p, L, X⟩⟩) (hL : L < 256) (hX : X < 256) (hT : Tab w) :
  Calls Tryz.prog 63 #[.agg #[.slice A l.length c, .int .i64 m], .int .i64 at_, .agg #[.int .i64 n, .int .i64 la, .int .i64 de, .bool h, .int .u64 p, .int .u8 L, .int .u8 X]] w fun e w' => e = .returned (.agg (gotC l m ⟨n, la, de, ⟨h, p, L, X⟩⟩ at_).cells) ∧ Below w.heap.size w w' := by
 obtain ⟨G, hG⟩ : ∃ G, G = gotC l m ⟨n, la, de, ⟨h, p, L, X⟩⟩ at_ := ⟨_, rfl⟩
 rw [← hG]
 have HG := Lib.hid hG
 have Hok := Lib.hid hok
 have HT := Lib.hid hT
 have HB := Lib.hid hb
 have Hs := Lib.hid hs
 have hm8 : m ≤ 8 * l.length := by
  obtain ⟨m', e, h8, -⟩ := sound_nat hs
  omega
 clear hG hok hT hb hs
 have K := (((Qs.zero w).box #[.slice A l.length c, .int .i64 m] 33).box #[.int .i64 n, .int .i64 la, .int .i64 de, .bool h, .int .u64 p, .int .u8 L, .int .u8 X] 88).box #[.int .i64 0, .int .u64 0, .int .i64 0, .int .i64 0, .int .i64 0, .int .i64 0, .bool false, .int .u64 0, .int .u8 0, .int .u8 0, .int .u16 0] 122
 simp only [World.size_alloc] at K
 have HK := Lib.hid K
 clear K
 go_enter Tryz.func63, Tryz.ntmps63
 go_wp2_with fail
 generalize ((w.alloc (.cells #[.slice A l.length c, .int .i64 m] 33)).alloc (.cells #[.int .i64 n, .int .i64 la, .int .i64 de, .bool h, .int .u64 p, .int .u8 L, .int .u8 X] 88)).alloc (.cells #[.int .i64 0, .int .u64 0, .int .i64 0, .int .i64 0, .int .i64 0, .int .i64 0, .bool false, .int .u64 0, .int .u8 0, .int .u8 0, .int .u16 0] 122) = W0 at *
 refine (cdt_any A c l m at_ n la de h p L X W0 (HB.out.below (HK.out.top 3)) Hs.out hl ha Hok.out.n Hok.out.last Hok.out.delta).mono ?_
 rintro e w1 ⟨hd, b1⟩
 replace HK := Lib.hid (HK.out.go b1)
 have z1 : w.heap.size + 3 ≤ w1.heap.size := (HK.out.blk 0).lt
 clear b1
 have fin : ∀ (W W' : World), Qs W [qB (w.heap.size + 1 + 1) 122 #[.int .i64 0, .int .u64 0, .int .i64 0, .int .i64 0, .int .i64 0, .int .i64 0, .bool false, .int .u64 0, .int .u8 0, .int .u8 0, .int .u16 0], qW w w.heap.size (Nat.le_refl _)] → sets W (w.heap.size + 1 + 1) [(0, .int .i64 0), (1, .int .u64 0), (2, .int .i64 0), (3, .int .i64 0), (4, .int .i64 0), (5, .int .i64 0), (6, .bool false), (7, .int .u64 0), (8, .int .u8 0), (9, .int .u8 0), (10, .int .u16 61)] = W' →
   Qs W' [qB (w.heap.size + 1 + 1) 122 #[.int .i64 0, .int .u64 0, .int .i64 0, .int .i64 0, .int .i64 0, .int .i64 0, .bool false, .int .u64 0, .int .u8 0, .int .u8 0, .int .u16 61], qW w w.heap.size (Nat.le_refl _)] := fun W W' hQ hW =>
  hQ.putTo 0 (w.heap.size + 1 + 1) _ #[.int .i64 0, .int .u64 0, .int .i64 0, .int .i64 0, .int .i64 0, .int .i64 0, .bool false, .int .u64 0, .int .u8 0, .int .u8 0, .int .u16 61] hW (by simp only [apBut, apAll, qB, qW, qO, qR, qZ, and_true]; omega)
 have Fin := Lib.hid fin
 clear fin
 rcases hd with ⟨t, a, k, rfl, rfl, hak, ht, hdt⟩ | ⟨t, x, rfl, hno⟩
 ·by_cases hbad : n ≠ 0 ∧ t ≤ la
  ·have k0 : (n != 0) = true := by simpa using hbad.1
   have k1 : decide (t ≤ la) = true := by simpa using hbad.2
   have hG2 : G = rc0 61 := by
    rw [HG.out]
    unfold gotC
    rw [if_neg (by omega), Int.toNat_natCast]
    unfold decC
    rw [hdt]
    dsimp only
    rw [if_pos hbad]
   have HG2 := Lib.hid hG2
   clear hG2 hdt hbad
   have C := HK.out.says
   simp only [sayAll, cellsSay, qB, qW, qO, qZ, Nat.reduceAdd, and_true] at C
   go_wp2_with fail
   refine (crefused_any 61 _).mono ?_
   rintro e w2 ⟨rfl, b2⟩
   replace HK := Lib.hid (HK.out.go b2)
   clear b2 C
   have C := HK.out.says
   simp only [sayAll, cellsSay, qB, qW, qO, qZ, Nat.reduceAdd, and_true] at C
   go_wp2_with fail
   generalize hW : World.setCell _ _ _ = W5
   have HK2 := Lib.hid (Fin.out w2 W5 (((Qs.nil _).cons (HK.out.get 3 rfl)).cons (HK.out.get 0 rfl)) hW)
   clear hW C
   have C := HK2.out.says
   simp only [sayAll, cellsSay, qB, qW, qO, qZ, List.set, Nat.reduceAdd, and_true] at C
   rw [HG2.out]
   exact bodyPost_ret (v := .agg #[.int .i64 0, .int .u64 0, .int .i64 0, .int .i64 0, .int .i64 0, .int .i64 0, .bool false, .int .u64 0, .int .u8 0, .int .u8 0, .int .u16 61]) (by simp [results, Tryz.results63, go_sem, C]) rfl ⟨rfl, HK2.out.top 1⟩
  ·obtain ⟨v, j, ⟨th, tp, tl, tb⟩, cd, hD⟩ : ∃ v j T cd, decX ⟨h, p, L, X⟩ ((bitl l m).drop (a + k)) = (v, j, T, cd) := ⟨_, _, _, _, rfl⟩
   obtain ⟨n1, hn1⟩ : ∃ x, x = w64 (n + 1) := ⟨_, rfl⟩
   obtain ⟨d1, hd1⟩ : ∃ x, x = deltaC ⟨n, la, de, ⟨h, p, L, X⟩⟩ t := ⟨_, rfl⟩
   have hd2 : (if n = 0 then de else w64 (t - la)) = d1 := by
    rw [hd1]
    unfold deltaC
    by_cases h0 : n = 0
    ·rw [if_pos h0, if_pos h0]
     have hsn := Hok.out.snd
     unfold soundC at hsn
     rw [if_pos h0] at hsn
     simp only [decide_eq_true_eq] at hsn
     exact hsn.2.1
    ·rw [if_neg h0, if_neg h0]
   have hG2 : G = if cd = 0 then ⟨t, v, ((a + k + j : Nat) : Int), ⟨n1, t, d1, ⟨th, tp, tl, tb⟩⟩, 0⟩ else rc0 61 := by
    rw [HG.out]
    unfold gotC
    rw [if_neg (by omega), Int.toNat_natCast]
    unfold decC
    rw [hdt]
    dsimp only
    rw [if_neg hbad, List.drop_drop, hD]
    dsimp only
    by_cases hc : cd = 0
    ·rw [if_pos hc, if_pos hc, hn1, hd1]
     dsimp only
     congr 1
     omega
    ·rw [if_neg hc, if_neg hc]
   have hgx := fun (W : World) (hW : Below w.heap.size w W) => xget_any A c l m ((a + k : Nat) : Int) h p L X W (HB.out.below hW) (by omega) hl (by omega) Hok.out.prev hL hX (tabGo HT.out hW)
   rw [getX_dec Hs.out Hok.out.val hak, hD] at hgx
   dsimp only at hgx
   have hpass : (n = 0 ∧ (n != 0) = false) ∨ (n ≠ 0 ∧ (n != 0) = true ∧ decide (t ≤ la) = false) := by
    by_cases h0 : n = 0
    ·exact Or.inl ⟨h0, by simp [h0]⟩
    ·exact Or.inr ⟨h0, by simpa using h0, by simp; omega⟩
   have HG2 := Lib.hid hG2
   have Hd2 := Lib.hid hd2
   have Hn1 := Lib.hid hn1
   have Hgx := Lib.hid hgx
   clear hG2 hdt hbad hD hn1 hd1 hd2 hgx
   have C := HK.out.says
   simp only [sayAll, cellsSay, qB, qW, qO, qZ, Nat.reduceAdd, and_true] at C
   rcases hpass with ⟨h0, k0⟩ | ⟨h0, k0, k1⟩
   all_goals
    have H0 := Lib.hid h0
    clear h0
    go_wp2_with fail
    by_cases hc : cd = 0
    ·have hg := Hgx.out w1 (HK.out.top 3)
     rw [if_pos hc] at hg
     have hG3 := HG2.out
     rw [if_pos hc] at hG3
     subst hc
     have HG3 := Lib.hid hG3
     clear hG3 HG2 Hgx
     obtain ⟨nd, hnd⟩ : ∃ x, x = a + k + j := ⟨_, rfl⟩
     rw [← hnd] at hg
     have Hnd := Lib.hid hnd
     clear hnd
     refine hg.mono ?_
     rintro e w2 ⟨rfl, b2⟩
     clear hg C
     have K2 := (HK.out.go b2).box #[.bool th, .int .u64 tp, .int .u8 tl, .int .u8 tb] 86
     replace HK := Lib.hid K2
     have z2 := b2.size
     clear K2 b2
     have C := HK.out.says
     simp only [sayAll, cellsSay, qB, qW, qO, qZ, Nat.reduceAdd, and_true] at C
     go_wp2_with fail
     have hca := cafter_any n la de t h p L X (w2.alloc (.cells #[.bool th, .int .u64 tp, .int .u8 tl, .int .u8 tb] 86)) Hok.out.n Hok.out.last Hok.out.delta ht
     rw [Hd2.out, ← Hn1.out] at hca
     refine hca.mono ?_
     rintro e w3 ⟨rfl, b3⟩
     have K3 := (HK.out.go b3).box #[.int .i64 n1, .int .i64 t, .int .i64 d1, .bool h, .int .u64 p, .int .u8 L, .int .u8 X] 88
     have z3 := b3.size
     simp only [World.size_alloc] at z3
     clear hca C b3
     go_upto_region 8 with fail
     generalize hW3 : World.alloc _ _ = W3
     rw [hW3] at K3
     clear hW3
     have C := K3.says
     simp only [sayAll, cellsSay, qB, qW, qO, qZ, Nat.reduceAdd, and_true] at C
     replace HK := Lib.hid K3
     clear K3
     go_upto_region 9 with fail
     generalize hW4 : World.setCell _ _ _ = W4
     have K4 := HK.out.putTo 0 w3.heap.size [(3, .bool th), (4, .int .u64 tp), (5, .int .u8 tl), (6, .int .u8 tb)] #[.int .i64 n1, .int .i64 t, .int .i64 d1, .bool th, .int .u64 tp, .int .u8 tl, .int .u8 tb] hW4 (by simp only [apBut, apAll, qB, qW, qO, qR, qZ, and_true]; omega)
     simp only [List.set] at K4
     replace HK := Lib.hid K4
     clear hW4 C K4
     have C := HK.out.says
     simp only [sayAll, cellsSay, qB, qW, qO, qZ, Nat.reduceAdd, and_true] at C
     go_wp2_with fail
     generalize hW : World.setCell _ _ _ = W5
     have K5 := HK.out.putTo 2 (w.heap.size + 1 + 1) [(0, .int .i64 t), (1, .int .u64 v), (2, .int .i64 nd), (3, .int .i64 n1), (4, .int .i64 t), (5, .int .i64 d1), (6, .bool th), (7, .int .u64 tp), (8, .int .u8 tl), (9, .int .u8 tb), (10, .int .u16 0)] #[.int .i64 t, .int .u64 v, .int .i64 nd, .int .i64 n1, .int .i64 t, .int .i64 d1, .bool th, .int .u64 tp, .int .u8 tl, .int .u8 tb, .int .u16 0] hW (by simp only [apBut, apAll, qB, qW, qO, qR, qZ, and_true]; omega)
     have HK5 := Lib.hid K5
     clear hW C K5
     have C := HK5.out.says
     simp only [sayAll, cellsSay, qB, qW, qO, qZ, List.set, Nat.reduceAdd, and_true] at C
     rw [HG3.out]
     exact bodyPost_ret (v := .agg #[.int .i64 t, .int .u64 v, .int .i64 nd, .int .i64 n1, .int .i64 t, .int .i64 d1, .bool th, .int .u64 tp, .int .u8 tl, .int .u8 tb, .int .u16 0]) (by simp [results, Tryz.results63, go_sem, C]) rfl ⟨by rw [Hnd.out]; rfl, HK5.out.top 5⟩
    ·have hg := Hgx.out w1 (HK.out.top 3)
     rw [if_neg hc] at hg
     have hG3 := HG2.out
     rw [if_neg hc] at hG3
     have kc : ((cd : Int) == 0) = false := beq_eq_false_iff_ne.2 (by omega)
     have HG3 := Lib.hid hG3
     clear hG3 HG2 Hgx hc
     refine hg.mono ?_
     rintro e w2 ⟨rfl, b2⟩
     clear hg C
     have K2 := (HK.out.go b2).box #[.bool th, .int .u64 tp, .int .u8 tl, .int .u8 tb] 86
     replace HK := Lib.hid K2
     clear K2 b2
     have C := HK.out.says
     simp only [sayAll, cellsSay, qB, qW, qO, qZ, Nat.reduceAdd, and_true] at C
     go_wp2_with fail
     refine (crefused_any 61 _).mono ?_
     rintro e w3 ⟨rfl, b3⟩
     replace HK := Lib.hid (HK.out.go b3)
     clear b3 C
     have C := HK.out.says
     simp only [sayAll, cellsSay, qB, qW, qO, qZ, Nat.reduceAdd, and_true] at C
     go_wp2_with fail
     generalize hW : World.setCell _ _ _ = W5
     have HK2 := Lib.hid (Fin.out w3 W5 (((Qs.nil _).cons (HK.out.get 4 rfl)).cons (HK.out.get 1 rfl)) hW)
     clear hW C
     have C := HK2.out.says
     simp only [sayAll, cellsSay, qB, qW, qO, qZ, List.set, Nat.reduceAdd, and_true] at C
     rw [HG3.out]
     exact bodyPost_ret (v := .agg #[.int .i64 0, .int .u64 0, .int .i64 0, .int .i64 0, .int .i64 0, .int .i64 0, .bool false, .int .u64 0, .int .u8 0, .int .u8 0, .int .u16 61]) (by simp [results, Tryz.results63, go_sem, C]) rfl ⟨rfl, HK2.out.top 1⟩
 ·have hG2 : G = rc0 61 := by
   rw [HG.out]
   unfold gotC
   rcases hno with hno | hno | hno
   ·rw [if_pos (Or.inl hno)]
   ·rw [if_pos (Or.inr hno)]
   ·split
    ·rfl
    ·unfold decC
     rw [hno]
  have HG2 := Lib.hid hG2
  clear hG2 hno
  have C := HK.out.says
  simp only [sayAll, cellsSay, qB, qW, qO, qZ, Nat.reduceAdd, and_true] at C
  go_wp2_with fail
  refine (crefused_any 61 _).mono ?_
  rintro e w2 ⟨rfl, b2⟩
  replace HK := Lib.hid (HK.out.go b2)
  clear b2 C
  have C := HK.out.says
  simp only [sayAll, cellsSay, qB, qW, qO, qZ, Nat.reduceAdd, and_true] at C
  go_wp2_with fail
  generalize hW : World.setCell _ _ _ = W5
  have HK2 := Lib.hid (Fin.out w2 W5 (((Qs.nil _).cons (HK.out.get 3 rfl)).cons (HK.out.get 0 rfl)) hW)
  clear hW C
  have C := HK2.out.says
  simp only [sayAll, cellsSay, qB, qW, qO, qZ, List.set, Nat.reduceAdd, and_true] at C
  rw [HG2.out]
  exact bodyPost_ret (v := .agg #[.int .i64 0, .int .u64 0, .int .i64 0, .int .i64 0, .int .i64 0, .int .i64 0, .bool false, .int .u64 0, .int .u8 0, .int .u8 0, .int .u16 61]) (by simp [results, Tryz.results63, go_sem, C]) rfl ⟨rfl, HK2.out.top 1⟩
end Go.Proofs.YtmcdollkmlcpbaaGreatDoor
namespace Go.Proofs.YtmcdollkmlcpbaaGreatDoor
open Go.RowKit
set_option maxRecDepth 100000
theorem Blk.setVal {w : World} {g : Nat} {t : TypeId} {a b c d e f h : Value} (k : Blk w g t #[a, b, c, d, e, f, h]) (d' e' f' h' : Value) : Blk ((((w.setCell ⟨g, 3, none⟩ d').setCell ⟨g, 4, none⟩ e').setCell ⟨g, 5, none⟩ f').setCell ⟨g, 6, none⟩ h') g t #[a, b, c, d', e', f', h'] := by
 simpa using (((k.set 3 d').set 4 e').set 5 f').set 6 h'
def OutC (R : List Bool × EC × Nat) (k : IntKind) (base : Nat) (e : Ending) (w : World) : Prop :=
 ∃ (A : Option Addr) (n c : Nat), n = (pack R.1).length ∧ e = .returned (.tuple #[.agg #[.slice A n c, .int .i64 R.1.length], .agg #[.int .i64 R.2.1.n, .int .i64 R.2.1.last, .int .i64 R.2.1.delta, .bool R.2.1.val.has, .int .u64 R.2.1.val.prev, .int .u8 R.2.1.val.lead, .int .u8 R.2.1.val.width], .int k R.2.2]) ∧ OwnB w base (.slice A n c) (pack R.1)
def oneC (e : EC) (t : Int) (v : Nat) : List Bool × EC × Nat := if mayC e t ≠ 0 then ([], ec0, mayC e t) else ((encC e t v).1, (encC e t v).2, 0)
set_option maxHeartbeats 2000000 in
theorem cencode_any (n la de t : Int) (h : Bool) (p L X v : Nat) (w : World) (hn : in64 n) (hla : in64 la) (hde : in64 de) (ht : in64 t) (hp : p < 18446744073709551616) (hL : L < 256) (hX : X < 256) (hv : v < 18446744073709551616) (hT : Tab w) :
  Calls Tryz.prog 71 #[.agg #[.int .i64 n, .int .i64 la, .int .i64 de, .bool h, .int .u64 p, .int .u8 L, .int .u8 X], .agg #[.int .i64 t, .int .u64 v]] w fun e w' => OutC (oneC ⟨n, la, de, ⟨h, p, L, X⟩⟩ t v) .u16 w.heap.size e w' ∧ Below w.heap.size w w' := by
 have K := ((Ks.four w #[.int .i64 n, .int .i64 la, .int .i64 de, .bool h, .int .u64 p, .int .u8 L, .int .u8 X] #[.int .i64 t, .int .u64 v] #[.slice none 0 0, .int .i64 0] #[.int .i64 0, .int .i64 0, .int .i64 0, .bool false, .int .u64 0, .int .u8 0, .int .u8 0] 88 42 33 88)).tab_ (tabGo hT (Ks.four w _ _ _ _ _ _ _ _ |>.top 0))
 obtain ⟨R, hR⟩ : ∃ R, R = oneC ⟨n, la, de, ⟨h, p, L, X⟩⟩ t v := ⟨_, rfl⟩
 rw [← hR]
 have HR := Lib.hid hR
 clear hR
 go_enter Tryz.func71, Tryz.ntmps71
 go_wp2_with fail
 generalize (((w.alloc (.cells #[.int .i64 n, .int .i64 la, .int .i64 de, .bool h, .int .u64 p, .int .u8 L, .int .u8 X] 88)).alloc (.cells #[.int .i64 t, .int .u64 v] 42)).alloc (.cells #[.slice none 0 0, .int .i64 0] 33)).alloc (.cells #[.int .i64 0, .int .i64 0, .int .i64 0, .bool false, .int .u64 0, .int .u8 0, .int .u8 0] 88) = W0 at *
 have HK := Lib.hid K
 have HT0 := Lib.hid hT
 clear K hT
 refine (csound_any n la de h p L X W0 hL hX).mono ?_
 rintro e w1 ⟨rfl, b1⟩
 replace HK := Lib.hid (HK.out.go b1)
 have hZ : w.heap.size + 4 ≤ w1.heap.size := by have := b1.size; have := (HK.out.blk 5).lt; omega
 clear b1
 obtain ⟨⟨a0, a1, a2, a3, a4, a5, a6⟩, -⟩ := (HK.out.blk 2).sept
 obtain ⟨⟨c0, c1⟩, -⟩ := (HK.out.blk 3).duo
 obtain ⟨⟨r0, r1⟩, r2, r3⟩ := (HK.out.blk 4).duo
 obtain ⟨⟨q0, q1, q2, q3, q4, q5, q6⟩, g0, g1, g2, g3, g4, g5, g6⟩ := (HK.out.blk 5).sept
 have fin0 : ∀ (k : Nat) (wx : World) (hK : Ks wx [kT, kW w w.heap.size (Nat.le_refl _), kB w.heap.size 88 #[.int .i64 n, .int .i64 la, .int .i64 de, .bool h, .int .u64 p, .int .u8 L, .int .u8 X], kB (w.heap.size + 1) 42 #[.int .i64 t, .int .u64 v], kB (w.heap.size + 2) 33 #[.slice none 0 0, .int .i64 0], kB (w.heap.size + 3) 88 #[.int .i64 0, .int .i64 0, .int .i64 0, .bool false, .int .u64 0, .int .u8 0, .int .u8 0]]),
   Blk (seven ((wx.setCell ⟨w.heap.size + 2, 0, none⟩ (.slice none 0 0)).setCell ⟨w.heap.size + 2, 1, none⟩ (.int .i64 0)) (w.heap.size + 3) (.int .i64 0) (.int .i64 0) (.int .i64 0) (.bool false) (.int .u64 0) (.int .u8 0) (.int .u8 0)) (w.heap.size + 2) 33 #[.slice none 0 0, .int .i64 0] ∧
   Blk (seven ((wx.setCell ⟨w.heap.size + 2, 0, none⟩ (.slice none 0 0)).setCell ⟨w.heap.size + 2, 1, none⟩ (.int .i64 0)) (w.heap.size + 3) (.int .i64 0) (.int .i64 0) (.int .i64 0) (.bool false) (.int .u64 0) (.int .u8 0) (.int .u8 0)) (w.heap.size + 3) 88 #[.int .i64 0, .int .i64 0, .int .i64 0, .bool false, .int .u64 0, .int .u8 0, .int .u8 0] ∧
   Below w.heap.size w (seven ((wx.setCell ⟨w.heap.size + 2, 0, none⟩ (.slice none 0 0)).setCell ⟨w.heap.size + 2, 1, none⟩ (.int .i64 0)) (w.heap.size + 3) (.int .i64 0) (.int .i64 0) (.int .i64 0) (.bool false) (.int .u64 0) (.int .u8 0) (.int .u8 0)) := fun k wx hK =>
  ⟨((hK.blk 4).set2 _ _).far7 (by omega) _ _ _ _ _ _ _, (((hK.blk 5).far ⟨w.heap.size + 2, 0, none⟩ _ (by simp)).far ⟨w.heap.size + 2, 1, none⟩ _ (by simp)).set7 _ _ _ _ _ _ _, below_set7 (((hK.top 1).setCell (by simp) _).setCell (by simp) _) (by omega) _ _ _ _ _ _ _⟩
 have F0 := Lib.hid fin0
 clear fin0
 cases hs : soundC ⟨n, la, de, ⟨h, p, L, X⟩⟩
 ·have Hs := Lib.hid hs
  clear hs
  go_wp2_with fail
  obtain ⟨f1, f2, f3⟩ := F0.out 0 _ HK.out
  obtain ⟨⟨s0, s1⟩, -⟩ := f1.duo
  obtain ⟨⟨u0, u1, u2, u3, u4, u5, u6⟩, -⟩ := f2.sept
  unfold seven at f3 s0 s1 u0 u1 u2 u3 u4 u5 u6
  refine bodyPost_ret (v := .tuple #[.agg #[.slice none 0 0, .int .i64 0], .agg #[.int .i64 0, .int .i64 0, .int .i64 0, .bool false, .int .u64 0, .int .u8 0, .int .u8 0], .int .u16 61]) (by simp [results, Tryz.results71, go_sem, s0, s1, u0, u1, u2, u3, u4, u5, u6]) rfl ⟨?_, f3⟩
  have : R = ([], ec0, 61) := by rw [HR.out]; unfold oneC mayC; rw [if_pos Hs.out]; rfl
  rw [this]
  exact ⟨none, 0, 0, rfl, rfl, OwnB.nil _ _⟩
 ·have Hs := Lib.hid hs
  have hok : OkC ⟨n, la, de, ⟨h, p, L, X⟩⟩ := ⟨hs, hn, hla, hde, hp⟩
  have Hok := Lib.hid hok
  have hmay := mayC_zero hok t
  clear hs
  by_cases hb : n ≠ 0 ∧ t ≤ la
  ·have k0 : (n == 0) = false := beq_eq_false_iff_ne.2 hb.1
   have k1 : decide (t ≤ la) = true := by simpa using hb.2
   have k2 : (n != 0) = true := by simpa using hb.1
   have k3 : ¬ n = 0 := hb.1
   have Hb := Lib.hid hb
   clear hb hmay hok
   go_wp2_with fail
   obtain ⟨f1, f2, f3⟩ := F0.out 0 _ HK.out
   obtain ⟨⟨s0, s1⟩, -⟩ := f1.duo
   obtain ⟨⟨u0, u1, u2, u3, u4, u5, u6⟩, -⟩ := f2.sept
   unfold seven at f3 s0 s1 u0 u1 u2 u3 u4 u5 u6
   refine bodyPost_ret (v := .tuple #[.agg #[.slice none 0 0, .int .i64 0], .agg #[.int .i64 0, .int .i64 0, .int .i64 0, .bool false, .int .u64 0, .int .u8 0, .int .u8 0], .int .u16 60]) (by simp [results, Tryz.results71, go_sem, s0, s1, u0, u1, u2, u3, u4, u5, u6]) rfl ⟨?_, f3⟩
   have hm : mayC ⟨n, la, de, ⟨h, p, L, X⟩⟩ t = 60 := by unfold mayC; rw [if_neg (by rw [Hs.out]; decide), if_pos Hb.out]
   have : R = ([], ec0, 60) := by rw [HR.out]; unfold oneC; rw [hm, if_pos (by decide)]
   rw [this]
   exact ⟨none, 0, 0, rfl, rfl, OwnB.nil _ _⟩
  ·have hm0 : mayC ⟨n, la, de, ⟨h, p, L, X⟩⟩ t = 0 := by
    rw [hmay]
    intro h1
    by_cases h2 : t ≤ la
    ·exact absurd ⟨h1, h2⟩ hb
    ·show la < t; omega
   have Hm0 := Lib.hid hm0
   obtain ⟨n1, hn1⟩ : ∃ x, x = w64 (n + 1) := ⟨_, rfl⟩
   obtain ⟨N, th, tp, tl, tb, hE⟩ : ∃ N th tp tl tb, encX ⟨h, p, L, X⟩ v = (N, ⟨th, tp, tl, tb⟩) := ⟨_, _, _, _, _, rfl⟩
   obtain ⟨M, hM⟩ : ∃ M, M = timeC ⟨n, la, de, ⟨h, p, L, X⟩⟩ t := ⟨_, rfl⟩
   obtain ⟨MN, hMN⟩ : ∃ MN, MN = M ++ N := ⟨_, rfl⟩
   obtain ⟨d1, hd1⟩ : ∃ x, x = (if n = 0 then de else w64 (t - la)) := ⟨_, rfl⟩
   have hRR : R = (MN, ⟨n1, t, d1, ⟨th, tp, tl, tb⟩⟩, 0) := by
    rw [HR.out]
    unfold oneC
    rw [if_neg (by rw [hm0]; simp)]
    unfold encC deltaC
    simp only
    rw [hE, ← hM, ← hMN, ← hn1]
    have : (if n = 0 then (0 : Int) else w64 (t - la)) = d1 := by
     rw [hd1]
     by_cases h0 : n = 0
     ·have hs := hok.snd
      unfold soundC at hs
      rw [if_pos h0] at hs
      simp only [decide_eq_true_eq] at hs
      rw [if_pos h0, if_pos h0, hs.2.1]
     ·rw [if_neg h0, if_neg h0]
    rw [this]
   have HRR := Lib.hid hRR
   have htl := timeC_length ⟨n, la, de, ⟨h, p, L, X⟩⟩ t
   rw [← hM] at htl
   have hA := cafter_any n la de t h p L X
   rw [← hn1, ← hd1] at hA
   have HA := Lib.hid hA
   have HX := Lib.hid (fun (A : Option Addr) (c : Nat) (W : World) (b : Bs W A (pack M)) (T : Tab W) => xput_M A c M N h p L X v ⟨th, tp, tl, tb⟩ W hE hok.val b (by omega) hv hp T)
   have HMN := Lib.hid hMN
   have hx1 : IntKind.u64.wrap t = (u64 t : Int) := by rw [IntKind.wrap_u64]; unfold u64; omega
   have hP := fun (W : World) (hz : M = valB (u64 t) 64) => put_M none 0 [] (u64 t : Int) 64 M W (by rw [hz]; simp) (Bs.nil _ _) ⟨by omega, by have := u64_lt t; omega⟩ (by omega) (by simp)
   have HP := Lib.hid hP
   have HM := Lib.hid hM
   have Hd1 := Lib.hid hd1
   have HN1 := Lib.hid hn1
   clear hRR hA hE hok hmay hm0 hM hMN hP hd1 hn1
   have HZ := Lib.hid hZ
   clear hZ
   by_cases h0 : n = 0
   ·subst h0
    have HMz := Lib.hid (HM.out.trans (show timeC ⟨0, la, de, ⟨h, p, L, X⟩⟩ t = valB (u64 t) 64 from rfl))
    go_wp2_with fail
    refine (HA.out _ hn hla hde ht).mono ?_
    rintro e w2 ⟨rfl, b2⟩
    have K2 := ((HK.out.go b2).box #[.int .i64 n1, .int .i64 t, .int .i64 d1, .bool h, .int .u64 p, .int .u8 L, .int .u8 X] 88).box #[.slice none 0 0, .int .i64 0] 33
    simp only [World.size_alloc] at K2
    replace HK := Lib.hid K2
    have z2 := b2.size
    have z1 := (HK.out.top 3).size
    clear K2 b2 HA a0 a1 a2 a3 a4 a5 a6 c0 c1 r0 r1 r2 r3 q0 q1 q2 q3 q4 q5 q6 g0 g1 g2 g3 g4 g5 g6
    have hz2 : w.heap.size + 4 ≤ w2.heap.size := by have := HZ.out; omega
    obtain ⟨⟨a0, a1, a2, a3, a4, a5, a6⟩, -⟩ := (HK.out.blk 4).sept
    obtain ⟨⟨c0, c1⟩, -⟩ := (HK.out.blk 5).duo
    obtain ⟨⟨y0, y1, y2, y3, y4, y5, y6⟩, -⟩ := (HK.out.blk 1).sept
    obtain ⟨⟨v0, v1⟩, v2, v3⟩ := (HK.out.blk 0).duo
    go_wp2_with fail
    refine (HP.out _ HMz.out).mono ?_
    rintro e w3 ⟨A3, c3, rfl, o3, b3⟩
    replace HK := Lib.hid (HK.out.go b3)
    have z3 := b3.size
    simp only [World.size_alloc] at z3 o3
    clear b3 a0 a1 a2 a3 a4 a5 a6 c0 c1 y0 y1 y2 y3 y4 y5 y6 v0 v1 v2 v3
    obtain ⟨⟨v0, v1⟩, v2, v3⟩ := (HK.out.blk 0).duo
    obtain ⟨⟨a0, a1, a2, a3, a4, a5, a6⟩, -⟩ := (HK.out.blk 4).sept
    obtain ⟨⟨c0, c1⟩, -⟩ := (HK.out.blk 5).duo
    go_upto_region 10 with fail
    have hno : (Value.slice A3 (pack M).length c3).ownBlock ≠ some (w2.heap.size + 1) := o3.ne (by omega)
    have K5 := (((((((Ks.nil ((w3.setCell ⟨w2.heap.size + 1, 0, none⟩ (.slice A3 (pack M).length c3)).setCell ⟨w2.heap.size + 1, 1, none⟩ (.int .i64 M.length))).cons (k := kB (w.heap.size + 3) 88 #[.int .i64 0, .int .i64 0, .int .i64 0, .bool false, .int .u64 0, .int .u8 0, .int .u8 0]) (((HK.out.blk 7).far _ _ (by simp; omega)).far _ _ (by simp; omega))).cons (k := kB (w.heap.size + 2) 33 #[.slice none 0 0, .int .i64 0]) (((HK.out.blk 6).far _ _ (by simp; omega)).far _ _ (by simp; omega))).cons (k := kB (w.heap.size + 1) 42 #[.int .i64 t, .int .u64 v]) (((HK.out.blk 5).far _ _ (by simp; omega)).far _ _ (by simp; omega))).cons (k := kB w.heap.size 88 #[.int .i64 0, .int .i64 la, .int .i64 de, .bool h, .int .u64 p, .int .u8 L, .int .u8 X]) (((HK.out.blk 4).far _ _ (by simp; omega)).far _ _ (by simp; omega))).cons (k := kW w w.heap.size (Nat.le_refl _)) ⟨((HK.out.top 3).setCell (by simp; omega) _).setCell (by simp; omega) _, by simp [World.setCell]; omega⟩).cons (k := kB w2.heap.size 88 #[.int .i64 n1, .int .i64 t, .int .i64 d1, .bool h, .int .u64 p, .int .u8 L, .int .u8 X]) (((HK.out.blk 1).far _ _ (by simp)).far _ _ (by simp))).cons (k := kB (w2.heap.size + 1) 33 #[.slice A3 (pack M).length c3, .int .i64 M.length]) ((HK.out.blk 0).set2 _ _)
    have K6 := K5.own_ ((o3.far (p := ⟨w2.heap.size + 1, 0, none⟩) hno (.slice A3 (pack M).length c3)).far (p := ⟨w2.heap.size + 1, 1, none⟩) hno (.int .i64 M.length))
    have hsz : ((w3.setCell ⟨w2.heap.size + 1, 0, none⟩ (.slice A3 (pack M).length c3)).setCell ⟨w2.heap.size + 1, 1, none⟩ (.int .i64 M.length)).heap.size = w3.heap.size := by simp [World.setCell]
    replace HK := Lib.hid K6
    clear K5 K6 hno o3 v0 v1 v2 v3 a0 a1 a2 a3 a4 a5 a6 c0 c1
    generalize (w3.setCell ⟨w2.heap.size + 1, 0, none⟩ (.slice A3 (pack M).length c3)).setCell ⟨w2.heap.size + 1, 1, none⟩ (.int .i64 M.length) = W5 at *
    obtain ⟨⟨v0, v1⟩, -⟩ := (HK.out.blk 1).duo
    obtain ⟨⟨a0, a1, a2, a3, a4, a5, a6⟩, -⟩ := (HK.out.blk 4).sept
    obtain ⟨⟨c0, c1⟩, -⟩ := (HK.out.blk 5).duo
    go_wp2_with fail
    refine (HX.out A3 c3 W5 (HK.out.own 0).bs (tabGo HT0.out (HK.out.top 3))).mono ?_
    rintro e w6 ⟨A6, c6, rfl, o6, b6⟩
    rw [← HMN.out] at o6 ⊢
    replace HK := Lib.hid (HK.out.go b6)
    have z6 := b6.size
    clear b6 v0 v1 a0 a1 a2 a3 a4 a5 a6 c0 c1 HX
    obtain ⟨⟨v0, v1⟩, v2, v3⟩ := (HK.out.blk 1).duo
    obtain ⟨⟨y0, y1, y2, y3, y4, y5, y6⟩, x0, x1, x2, x3, x4, x5, x6⟩ := (HK.out.blk 2).sept
    go_upto_region 14 with fail
    have hsz6 : ((((((w6.setCell ⟨w2.heap.size + 1, 0, none⟩ (.slice A6 (pack MN).length c6)).setCell ⟨w2.heap.size + 1, 1, none⟩ (.int .i64 MN.length)).setCell ⟨w2.heap.size, 3, none⟩ (.bool th)).setCell ⟨w2.heap.size, 4, none⟩ (.int .u64 tp)).setCell ⟨w2.heap.size, 5, none⟩ (.int .u8 tl)).setCell ⟨w2.heap.size, 6, none⟩ (.int .u8 tb)).heap.size = w6.heap.size := by simp [World.setCell]
    have e1 : Blk ((((((w6.setCell ⟨w2.heap.size + 1, 0, none⟩ (.slice A6 (pack MN).length c6)).setCell ⟨w2.heap.size + 1, 1, none⟩ (.int .i64 MN.length)).setCell ⟨w2.heap.size, 3, none⟩ (.bool th)).setCell ⟨w2.heap.size, 4, none⟩ (.int .u64 tp)).setCell ⟨w2.heap.size, 5, none⟩ (.int .u8 tl)).setCell ⟨w2.heap.size, 6, none⟩ (.int .u8 tb)) (w2.heap.size + 1) 33 #[.slice A6 (pack MN).length c6, .int .i64 MN.length] := ((((((HK.out.blk 1).set2 (.slice A6 (pack MN).length c6) (.int .i64 MN.length)).far ⟨w2.heap.size, 3, none⟩ (.bool th) (by simp)).far ⟨w2.heap.size, 4, none⟩ (.int .u64 tp) (by simp)).far ⟨w2.heap.size, 5, none⟩ (.int .u8 tl) (by simp)).far ⟨w2.heap.size, 6, none⟩ (.int .u8 tb) (by simp))
    have e2 : Blk ((((((w6.setCell ⟨w2.heap.size + 1, 0, none⟩ (.slice A6 (pack MN).length c6)).setCell ⟨w2.heap.size + 1, 1, none⟩ (.int .i64 MN.length)).setCell ⟨w2.heap.size, 3, none⟩ (.bool th)).setCell ⟨w2.heap.size, 4, none⟩ (.int .u64 tp)).setCell ⟨w2.heap.size, 5, none⟩ (.int .u8 tl)).setCell ⟨w2.heap.size, 6, none⟩ (.int .u8 tb)) w2.heap.size 88 #[.int .i64 n1, .int .i64 t, .int .i64 d1, .bool th, .int .u64 tp, .int .u8 tl, .int .u8 tb] := (((HK.out.blk 2).far ⟨w2.heap.size + 1, 0, none⟩ (.slice A6 (pack MN).length c6) (by simp)).far ⟨w2.heap.size + 1, 1, none⟩ (.int .i64 MN.length) (by simp)).setVal (.bool th) (.int .u64 tp) (.int .u8 tl) (.int .u8 tb)
    have e3 : Blk ((((((w6.setCell ⟨w2.heap.size + 1, 0, none⟩ (.slice A6 (pack MN).length c6)).setCell ⟨w2.heap.size + 1, 1, none⟩ (.int .i64 MN.length)).setCell ⟨w2.heap.size, 3, none⟩ (.bool th)).setCell ⟨w2.heap.size, 4, none⟩ (.int .u64 tp)).setCell ⟨w2.heap.size, 5, none⟩ (.int .u8 tl)).setCell ⟨w2.heap.size, 6, none⟩ (.int .u8 tb)) (w.heap.size + 2) 33 #[.slice none 0 0, .int .i64 0] := (((((((HK.out.blk 6).far _ _ (by simp; omega)).far _ _ (by simp; omega)).far _ _ (by simp; omega)).far _ _ (by simp; omega)).far _ _ (by simp; omega)).far _ _ (by simp; omega))
    have e4 : Blk ((((((w6.setCell ⟨w2.heap.size + 1, 0, none⟩ (.slice A6 (pack MN).length c6)).setCell ⟨w2.heap.size + 1, 1, none⟩ (.int .i64 MN.length)).setCell ⟨w2.heap.size, 3, none⟩ (.bool th)).setCell ⟨w2.heap.size, 4, none⟩ (.int .u64 tp)).setCell ⟨w2.heap.size, 5, none⟩ (.int .u8 tl)).setCell ⟨w2.heap.size, 6, none⟩ (.int .u8 tb)) (w.heap.size + 3) 88 #[.int .i64 0, .int .i64 0, .int .i64 0, .bool false, .int .u64 0, .int .u8 0, .int .u8 0] := (((((((HK.out.blk 7).far _ _ (by simp; omega)).far _ _ (by simp; omega)).far _ _ (by simp; omega)).far _ _ (by simp; omega)).far _ _ (by simp; omega)).far _ _ (by simp; omega))
    have e5 : Below w.heap.size w ((((((w6.setCell ⟨w2.heap.size + 1, 0, none⟩ (.slice A6 (pack MN).length c6)).setCell ⟨w2.heap.size + 1, 1, none⟩ (.int .i64 MN.length)).setCell ⟨w2.heap.size, 3, none⟩ (.bool th)).setCell ⟨w2.heap.size, 4, none⟩ (.int .u64 tp)).setCell ⟨w2.heap.size, 5, none⟩ (.int .u8 tl)).setCell ⟨w2.heap.size, 6, none⟩ (.int .u8 tb)) := ((((((HK.out.top 3).setCell (by simp; omega) _).setCell (by simp; omega) _).setCell (by simp; omega) _).setCell (by simp; omega) _).setCell (by simp; omega) _).setCell (by simp; omega) _
    have no1 : (Value.slice A6 (pack MN).length c6).ownBlock ≠ some (w2.heap.size + 1) := o6.ne (by omega)
    have no2 : (Value.slice A6 (pack MN).length c6).ownBlock ≠ some w2.heap.size := o6.ne (by omega)
    have e6 : OwnB ((((((w6.setCell ⟨w2.heap.size + 1, 0, none⟩ (.slice A6 (pack MN).length c6)).setCell ⟨w2.heap.size + 1, 1, none⟩ (.int .i64 MN.length)).setCell ⟨w2.heap.size, 3, none⟩ (.bool th)).setCell ⟨w2.heap.size, 4, none⟩ (.int .u64 tp)).setCell ⟨w2.heap.size, 5, none⟩ (.int .u8 tl)).setCell ⟨w2.heap.size, 6, none⟩ (.int .u8 tb)) W5.heap.size (.slice A6 (pack MN).length c6) (pack MN) := (((((o6.far (p := ⟨w2.heap.size + 1, 0, none⟩) no1 _).far (p := ⟨w2.heap.size + 1, 1, none⟩) no1 _).far (p := ⟨w2.heap.size, 3, none⟩) no2 _).far (p := ⟨w2.heap.size, 4, none⟩) no2 _).far (p := ⟨w2.heap.size, 5, none⟩) no2 _).far (p := ⟨w2.heap.size, 6, none⟩) no2 _
    clear v0 v1 v2 v3 y0 y1 y2 y3 y4 y5 y6 x0 x1 x2 x3 x4 x5 x6 no1 no2 o6 HK F0
    generalize ((((((w6.setCell ⟨w2.heap.size + 1, 0, none⟩ (.slice A6 (pack MN).length c6)).setCell ⟨w2.heap.size + 1, 1, none⟩ (.int .i64 MN.length)).setCell ⟨w2.heap.size, 3, none⟩ (.bool th)).setCell ⟨w2.heap.size, 4, none⟩ (.int .u64 tp)).setCell ⟨w2.heap.size, 5, none⟩ (.int .u8 tl)).setCell ⟨w2.heap.size, 6, none⟩ (.int .u8 tb)) = W7 at *
    have E3 := Lib.hid e3
    have E4 := Lib.hid e4
    have E5 := Lib.hid e5
    have E6 := Lib.hid e6
    obtain ⟨⟨v0, v1⟩, v2, v3⟩ := e3.duo
    obtain ⟨⟨y0, y1, y2, y3, y4, y5, y6⟩, x0, x1, x2, x3, x4, x5, x6⟩ := e4.sept
    have dq : W7.cell? ⟨w2.heap.size + 1, 0, none⟩ = some (.slice A6 (pack MN).length c6) ∧ W7.cell? ⟨w2.heap.size + 1, 1, none⟩ = some (.int .i64 MN.length) ∧ W7.cell? ⟨w2.heap.size, 0, none⟩ = some (.int .i64 n1) ∧ W7.cell? ⟨w2.heap.size, 1, none⟩ = some (.int .i64 t) ∧ W7.cell? ⟨w2.heap.size, 2, none⟩ = some (.int .i64 d1) ∧ W7.cell? ⟨w2.heap.size, 3, none⟩ = some (.bool th) ∧ W7.cell? ⟨w2.heap.size, 4, none⟩ = some (.int .u64 tp) ∧ W7.cell? ⟨w2.heap.size, 5, none⟩ = some (.int .u8 tl) ∧ W7.cell? ⟨w2.heap.size, 6, none⟩ = some (.int .u8 tb) := ⟨e1.cell 0, e1.cell 1, e2.cell 0, e2.cell 1, e2.cell 2, e2.cell 3, e2.cell 4, e2.cell 5, e2.cell 6⟩
    have nf1 := fun (W : World) (i j : Nat) (u : Value) => World.cell?_setCell_far W ⟨w.heap.size + 1 + 1, i, none⟩ ⟨w2.heap.size + 1, j, none⟩ u (by simp; omega)
    have nf2 := fun (W : World) (i j : Nat) (u : Value) => World.cell?_setCell_far W ⟨w.heap.size + 1 + 1, i, none⟩ ⟨w2.heap.size, j, none⟩ u (by simp; omega)
    have nf3 := fun (W : World) (i j : Nat) (u : Value) => World.cell?_setCell_far W ⟨w.heap.size + 1 + 1 + 1, i, none⟩ ⟨w2.heap.size + 1, j, none⟩ u (by simp; omega)
    have nf4 := fun (W : World) (i j : Nat) (u : Value) => World.cell?_setCell_far W ⟨w.heap.size + 1 + 1 + 1, i, none⟩ ⟨w2.heap.size, j, none⟩ u (by simp; omega)
    have ndr : ∀ (W : World) (a : Addr), W.drew.cell? a = W.cell? a := fun _ _ => rfl
    clear e1 e2 e3 e4 e5 e6
    go_region_held3 (fun w' => w'.cell? ⟨w2.heap.size + 1, 0, none⟩ = some (.slice A6 (pack MN).length c6) ∧ w'.cell? ⟨w2.heap.size + 1, 1, none⟩ = some (.int .i64 MN.length) ∧ w'.cell? ⟨w2.heap.size, 0, none⟩ = some (.int .i64 n1) ∧ w'.cell? ⟨w2.heap.size, 1, none⟩ = some (.int .i64 t) ∧ w'.cell? ⟨w2.heap.size, 2, none⟩ = some (.int .i64 d1) ∧ w'.cell? ⟨w2.heap.size, 3, none⟩ = some (.bool th) ∧ w'.cell? ⟨w2.heap.size, 4, none⟩ = some (.int .u64 tp) ∧ w'.cell? ⟨w2.heap.size, 5, none⟩ = some (.int .u8 tl) ∧ w'.cell? ⟨w2.heap.size, 6, none⟩ = some (.int .u8 tb)) (first | (simp only [ndr]; with_reducible exact dq) | (simp only [ndr, nf1, nf2, nf3, nf4]; with_reducible exact dq)) (fail)
    go_wp2_with fail
    have nb1 : (Value.slice A6 (pack MN).length c6).ownBlock ≠ some (w.heap.size + 2) := E6.out.ne (by omega)
    have nb2 : (Value.slice A6 (pack MN).length c6).ownBlock ≠ some (w.heap.size + 3) := E6.out.ne (by omega)
    have f1 := (E3.out.set2 (.slice A6 (pack MN).length c6) (.int .i64 MN.length)).far7 (g := w.heap.size + 3) (by omega) (.int .i64 n1) (.int .i64 t) (.int .i64 d1) (.bool th) (.int .u64 tp) (.int .u8 tl) (.int .u8 tb)
    have f2 := ((E4.out.far ⟨w.heap.size + 2, 0, none⟩ (.slice A6 (pack MN).length c6) (by simp)).far ⟨w.heap.size + 2, 1, none⟩ (.int .i64 MN.length) (by simp)).set7 (.int .i64 n1) (.int .i64 t) (.int .i64 d1) (.bool th) (.int .u64 tp) (.int .u8 tl) (.int .u8 tb)
    have f3 := below_set7 ((E5.out.setCell (p := ⟨w.heap.size + 2, 0, none⟩) (by simp) (.slice A6 (pack MN).length c6)).setCell (p := ⟨w.heap.size + 2, 1, none⟩) (by simp) (.int .i64 MN.length)) (g := w.heap.size + 3) (by omega) (.int .i64 n1) (.int .i64 t) (.int .i64 d1) (.bool th) (.int .u64 tp) (.int .u8 tl) (.int .u8 tb)
    have f4 := ((E6.out.far (p := ⟨w.heap.size + 2, 0, none⟩) nb1 (.slice A6 (pack MN).length c6)).far (p := ⟨w.heap.size + 2, 1, none⟩) nb1 (.int .i64 MN.length)).far7 nb2 (.int .i64 n1) (.int .i64 t) (.int .i64 d1) (.bool th) (.int .u64 tp) (.int .u8 tl) (.int .u8 tb)
    unfold seven at f1 f2 f3 f4
    obtain ⟨⟨s0, s1⟩, -⟩ := f1.duo
    obtain ⟨⟨u0, u1, u2, u3, u4, u5, u6⟩, -⟩ := f2.sept
    refine bodyPost_ret (v := .tuple #[.agg #[.slice A6 (pack MN).length c6, .int .i64 MN.length], .agg #[.int .i64 n1, .int .i64 t, .int .i64 d1, .bool th, .int .u64 tp, .int .u8 tl, .int .u8 tb], .int .u16 0]) (by simp [results, Tryz.results71, go_sem, s0, s1, u0, u1, u2, u3, u4, u5, u6]) rfl ⟨?_, f3.drew⟩
    rw [HRR.out]
    exact ⟨A6, _, c6, rfl, rfl, (f4.mono (by omega)).drew⟩
   ·have k0 : (n == 0) = false := beq_eq_false_iff_ne.2 h0
    have k2 : (n != 0) = true := by simpa using h0
    have k3 : decide (t ≤ la) = false := by
     have := mayC_zero Hok.out t
     have h9 := this.1 Hm0.out h0
     have h9' : la < t := h9
     simp; omega
    have k4 : IntKind.i64.wrap (d1 - de) = w64 (d1 - de) := by rw [IntKind.wrap_i64]; rfl
    go_wp2_with fail
    refine (HA.out _ hn hla hde ht).mono ?_
    rintro e w2 ⟨rfl, b2⟩
    have K2 := ((HK.out.go b2).box #[.int .i64 n1, .int .i64 t, .int .i64 d1, .bool h, .int .u64 p, .int .u8 L, .int .u8 X] 88).box #[.slice none 0 0, .int .i64 0] 33
    simp only [World.size_alloc] at K2
    replace HK := Lib.hid K2
    have z2 := b2.size
    have z1 := (HK.out.top 3).size
    clear K2 b2 HA a0 a1 a2 a3 a4 a5 a6 c0 c1 r0 r1 r2 r3 q0 q1 q2 q3 q4 q5 q6 g0 g1 g2 g3 g4 g5 g6
    have hz2 : w.heap.size + 4 ≤ w2.heap.size := by have := HZ.out; omega
    obtain ⟨⟨a0, a1, a2, a3, a4, a5, a6⟩, -⟩ := (HK.out.blk 4).sept
    obtain ⟨⟨c0, c1⟩, -⟩ := (HK.out.blk 5).duo
    obtain ⟨⟨y0, y1, y2, y3, y4, y5, y6⟩, -⟩ := (HK.out.blk 1).sept
    obtain ⟨⟨v0, v1⟩, v2, v3⟩ := (HK.out.blk 0).duo
    go_wp2_with fail
    refine (zputM none 0 [] (w64 (d1 - de)) _ (Bs.nil _ _) (by simp) (w64_in _)).mono ?_
    rintro e w3 ⟨M3, A3, c3, hM3, -, -, rfl, o3, b3⟩
    have hq : M = M3 := by
     rw [hM3.out, HM.out]
     unfold timeC
     rw [if_neg h0, Hd1.out, if_neg h0]
     rfl
    clear hM3
    subst hq
    replace HK := Lib.hid (HK.out.go b3)
    have z3 := b3.size
    simp only [World.size_alloc] at z3 o3
    clear b3 a0 a1 a2 a3 a4 a5 a6 c0 c1 y0 y1 y2 y3 y4 y5 y6 v0 v1 v2 v3
    obtain ⟨⟨v0, v1⟩, v2, v3⟩ := (HK.out.blk 0).duo
    obtain ⟨⟨a0, a1, a2, a3, a4, a5, a6⟩, -⟩ := (HK.out.blk 4).sept
    obtain ⟨⟨c0, c1⟩, -⟩ := (HK.out.blk 5).duo
    go_upto_region 10 with fail
    have hno : (Value.slice A3 (pack M).length c3).ownBlock ≠ some (w2.heap.size + 1) := o3.ne (by omega)
    have K5 := (((((((Ks.nil ((w3.setCell ⟨w2.heap.size + 1, 0, none⟩ (.slice A3 (pack M).length c3)).setCell ⟨w2.heap.size + 1, 1, none⟩ (.int .i64 M.length))).cons (k := kB (w.heap.size + 3) 88 #[.int .i64 0, .int .i64 0, .int .i64 0, .bool false, .int .u64 0, .int .u8 0, .int .u8 0]) (((HK.out.blk 7).far _ _ (by simp; omega)).far _ _ (by simp; omega))).cons (k := kB (w.heap.size + 2) 33 #[.slice none 0 0, .int .i64 0]) (((HK.out.blk 6).far _ _ (by simp; omega)).far _ _ (by simp; omega))).cons (k := kB (w.heap.size + 1) 42 #[.int .i64 t, .int .u64 v]) (((HK.out.blk 5).far _ _ (by simp; omega)).far _ _ (by simp; omega))).cons (k := kB w.heap.size 88 #[.int .i64 n, .int .i64 la, .int .i64 de, .bool h, .int .u64 p, .int .u8 L, .int .u8 X]) (((HK.out.blk 4).far _ _ (by simp; omega)).far _ _ (by simp; omega))).cons (k := kW w w.heap.size (Nat.le_refl _)) ⟨((HK.out.top 3).setCell (by simp; omega) _).setCell (by simp; omega) _, by simp [World.setCell]; omega⟩).cons (k := kB w2.heap.size 88 #[.int .i64 n1, .int .i64 t, .int .i64 d1, .bool h, .int .u64 p, .int .u8 L, .int .u8 X]) (((HK.out.blk 1).far _ _ (by simp)).far _ _ (by simp))).cons (k := kB (w2.heap.size + 1) 33 #[.slice A3 (pack M).length c3, .int .i64 M.length]) ((HK.out.blk 0).set2 _ _)
    have K6 := K5.own_ ((o3.far (p := ⟨w2.heap.size + 1, 0, none⟩) hno (.slice A3 (pack M).length c3)).far (p := ⟨w2.heap.size + 1, 1, none⟩) hno (.int .i64 M.length))
    have hsz : ((w3.setCell ⟨w2.heap.size + 1, 0, none⟩ (.slice A3 (pack M).length c3)).setCell ⟨w2.heap.size + 1, 1, none⟩ (.int .i64 M.length)).heap.size = w3.heap.size := by simp [World.setCell]
    replace HK := Lib.hid K6
    clear K5 K6 hno o3 v0 v1 v2 v3 a0 a1 a2 a3 a4 a5 a6 c0 c1
    generalize (w3.setCell ⟨w2.heap.size + 1, 0, none⟩ (.slice A3 (pack M).length c3)).setCell ⟨w2.heap.size + 1, 1, none⟩ (.int .i64 M.length) = W5 at *
    obtain ⟨⟨v0, v1⟩, -⟩ := (HK.out.blk 1).duo
    obtain ⟨⟨a0, a1, a2, a3, a4, a5, a6⟩, -⟩ := (HK.out.blk 4).sept
    obtain ⟨⟨c0, c1⟩, -⟩ := (HK.out.blk 5).duo
    go_wp2_with fail
    refine (HX.out A3 c3 W5 (HK.out.own 0).bs (tabGo HT0.out (HK.out.top 3))).mono ?_
    rintro e w6 ⟨A6, c6, rfl, o6, b6⟩
    rw [← HMN.out] at o6 ⊢
    replace HK := Lib.hid (HK.out.go b6)
    have z6 := b6.size
    clear b6 v0 v1 a0 a1 a2 a3 a4 a5 a6 c0 c1 HX
    obtain ⟨⟨v0, v1⟩, v2, v3⟩ := (HK.out.blk 1).duo
    obtain ⟨⟨y0, y1, y2, y3, y4, y5, y6⟩, x0, x1, x2, x3, x4, x5, x6⟩ := (HK.out.blk 2).sept
    go_upto_region 14 with fail
    have hsz6 : ((((((w6.setCell ⟨w2.heap.size + 1, 0, none⟩ (.slice A6 (pack MN).length c6)).setCell ⟨w2.heap.size + 1, 1, none⟩ (.int .i64 MN.length)).setCell ⟨w2.heap.size, 3, none⟩ (.bool th)).setCell ⟨w2.heap.size, 4, none⟩ (.int .u64 tp)).setCell ⟨w2.heap.size, 5, none⟩ (.int .u8 tl)).setCell ⟨w2.heap.size, 6, none⟩ (.int .u8 tb)).heap.size = w6.heap.size := by simp [World.setCell]
    have e1 : Blk ((((((w6.setCell ⟨w2.heap.size + 1, 0, none⟩ (.slice A6 (pack MN).length c6)).setCell ⟨w2.heap.size + 1, 1, none⟩ (.int .i64 MN.length)).setCell ⟨w2.heap.size, 3, none⟩ (.bool th)).setCell ⟨w2.heap.size, 4, none⟩ (.int .u64 tp)).setCell ⟨w2.heap.size, 5, none⟩ (.int .u8 tl)).setCell ⟨w2.heap.size, 6, none⟩ (.int .u8 tb)) (w2.heap.size + 1) 33 #[.slice A6 (pack MN).length c6, .int .i64 MN.length] := ((((((HK.out.blk 1).set2 (.slice A6 (pack MN).length c6) (.int .i64 MN.length)).far ⟨w2.heap.size, 3, none⟩ (.bool th) (by simp)).far ⟨w2.heap.size, 4, none⟩ (.int .u64 tp) (by simp)).far ⟨w2.heap.size, 5, none⟩ (.int .u8 tl) (by simp)).far ⟨w2.heap.size, 6, none⟩ (.int .u8 tb) (by simp))
    have e2 : Blk ((((((w6.setCell ⟨w2.heap.size + 1, 0, none⟩ (.slice A6 (pack MN).length c6)).setCell ⟨w2.heap.size + 1, 1, none⟩ (.int .i64 MN.length)).setCell ⟨w2.heap.size, 3, none⟩ (.bool th)).setCell ⟨w2.heap.size, 4, none⟩ (.int .u64 tp)).setCell ⟨w2.heap.size, 5, none⟩ (.int .u8 tl)).setCell ⟨w2.heap.size, 6, none⟩ (.int .u8 tb)) w2.heap.size 88 #[.int .i64 n1, .int .i64 t, .int .i64 d1, .bool th, .int .u64 tp, .int .u8 tl, .int .u8 tb] := (((HK.out.blk 2).far ⟨w2.heap.size + 1, 0, none⟩ (.slice A6 (pack MN).length c6) (by simp)).far ⟨w2.heap.size + 1, 1, none⟩ (.int .i64 MN.length) (by simp)).setVal (.bool th) (.int .u64 tp) (.int .u8 tl) (.int .u8 tb)
    have e3 : Blk ((((((w6.setCell ⟨w2.heap.size + 1, 0, none⟩ (.slice A6 (pack MN).length c6)).setCell ⟨w2.heap.size + 1, 1, none⟩ (.int .i64 MN.length)).setCell ⟨w2.heap.size, 3, none⟩ (.bool th)).setCell ⟨w2.heap.size, 4, none⟩ (.int .u64 tp)).setCell ⟨w2.heap.size, 5, none⟩ (.int .u8 tl)).setCell ⟨w2.heap.size, 6, none⟩ (.int .u8 tb)) (w.heap.size + 2) 33 #[.slice none 0 0, .int .i64 0] := (((((((HK.out.blk 6).far _ _ (by simp; omega)).far _ _ (by simp; omega)).far _ _ (by simp; omega)).far _ _ (by simp; omega)).far _ _ (by simp; omega)).far _ _ (by simp; omega))
    have e4 : Blk ((((((w6.setCell ⟨w2.heap.size + 1, 0, none⟩ (.slice A6 (pack MN).length c6)).setCell ⟨w2.heap.size + 1, 1, none⟩ (.int .i64 MN.length)).setCell ⟨w2.heap.size, 3, none⟩ (.bool th)).setCell ⟨w2.heap.size, 4, none⟩ (.int .u64 tp)).setCell ⟨w2.heap.size, 5, none⟩ (.int .u8 tl)).setCell ⟨w2.heap.size, 6, none⟩ (.int .u8 tb)) (w.heap.size + 3) 88 #[.int .i64 0, .int .i64 0, .int .i64 0, .bool false, .int .u64 0, .int .u8 0, .int .u8 0] := (((((((HK.out.blk 7).far _ _ (by simp; omega)).far _ _ (by simp; omega)).far _ _ (by simp; omega)).far _ _ (by simp; omega)).far _ _ (by simp; omega)).far _ _ (by simp; omega))
    have e5 : Below w.heap.size w ((((((w6.setCell ⟨w2.heap.size + 1, 0, none⟩ (.slice A6 (pack MN).length c6)).setCell ⟨w2.heap.size + 1, 1, none⟩ (.int .i64 MN.length)).setCell ⟨w2.heap.size, 3, none⟩ (.bool th)).setCell ⟨w2.heap.size, 4, none⟩ (.int .u64 tp)).setCell ⟨w2.heap.size, 5, none⟩ (.int .u8 tl)).setCell ⟨w2.heap.size, 6, none⟩ (.int .u8 tb)) := ((((((HK.out.top 3).setCell (by simp; omega) _).setCell (by simp; omega) _).setCell (by simp; omega) _).setCell (by simp; omega) _).setCell (by simp; omega) _).setCell (by simp; omega) _
    have no1 : (Value.slice A6 (pack MN).length c6).ownBlock ≠ some (w2.heap.size + 1) := o6.ne (by omega)
    have no2 : (Value.slice A6 (pack MN).length c6).ownBlock ≠ some w2.heap.size := o6.ne (by omega)
    have e6 : OwnB ((((((w6.setCell ⟨w2.heap.size + 1, 0, none⟩ (.slice A6 (pack MN).length c6)).setCell ⟨w2.heap.size + 1, 1, none⟩ (.int .i64 MN.length)).setCell ⟨w2.heap.size, 3, none⟩ (.bool th)).setCell ⟨w2.heap.size, 4, none⟩ (.int .u64 tp)).setCell ⟨w2.heap.size, 5, none⟩ (.int .u8 tl)).setCell ⟨w2.heap.size, 6, none⟩ (.int .u8 tb)) W5.heap.size (.slice A6 (pack MN).length c6) (pack MN) := (((((o6.far (p := ⟨w2.heap.size + 1, 0, none⟩) no1 _).far (p := ⟨w2.heap.size + 1, 1, none⟩) no1 _).far (p := ⟨w2.heap.size, 3, none⟩) no2 _).far (p := ⟨w2.heap.size, 4, none⟩) no2 _).far (p := ⟨w2.heap.size, 5, none⟩) no2 _).far (p := ⟨w2.heap.size, 6, none⟩) no2 _
    clear v0 v1 v2 v3 y0 y1 y2 y3 y4 y5 y6 x0 x1 x2 x3 x4 x5 x6 no1 no2 o6 HK F0
    generalize ((((((w6.setCell ⟨w2.heap.size + 1, 0, none⟩ (.slice A6 (pack MN).length c6)).setCell ⟨w2.heap.size + 1, 1, none⟩ (.int .i64 MN.length)).setCell ⟨w2.heap.size, 3, none⟩ (.bool th)).setCell ⟨w2.heap.size, 4, none⟩ (.int .u64 tp)).setCell ⟨w2.heap.size, 5, none⟩ (.int .u8 tl)).setCell ⟨w2.heap.size, 6, none⟩ (.int .u8 tb)) = W7 at *
    have E3 := Lib.hid e3
    have E4 := Lib.hid e4
    have E5 := Lib.hid e5
    have E6 := Lib.hid e6
    obtain ⟨⟨v0, v1⟩, v2, v3⟩ := e3.duo
    obtain ⟨⟨y0, y1, y2, y3, y4, y5, y6⟩, x0, x1, x2, x3, x4, x5, x6⟩ := e4.sept
    have dq : W7.cell? ⟨w2.heap.size + 1, 0, none⟩ = some (.slice A6 (pack MN).length c6) ∧ W7.cell? ⟨w2.heap.size + 1, 1, none⟩ = some (.int .i64 MN.length) ∧ W7.cell? ⟨w2.heap.size, 0, none⟩ = some (.int .i64 n1) ∧ W7.cell? ⟨w2.heap.size, 1, none⟩ = some (.int .i64 t) ∧ W7.cell? ⟨w2.heap.size, 2, none⟩ = some (.int .i64 d1) ∧ W7.cell? ⟨w2.heap.size, 3, none⟩ = some (.bool th) ∧ W7.cell? ⟨w2.heap.size, 4, none⟩ = some (.int .u64 tp) ∧ W7.cell? ⟨w2.heap.size, 5, none⟩ = some (.int .u8 tl) ∧ W7.cell? ⟨w2.heap.size, 6, none⟩ = some (.int .u8 tb) := ⟨e1.cell 0, e1.cell 1, e2.cell 0, e2.cell 1, e2.cell 2, e2.cell 3, e2.cell 4, e2.cell 5, e2.cell 6⟩
    have nf1 := fun (W : World) (i j : Nat) (u : Value) => World.cell?_setCell_far W ⟨w.heap.size + 1 + 1, i, none⟩ ⟨w2.heap.size + 1, j, none⟩ u (by simp; omega)
    have nf2 := fun (W : World) (i j : Nat) (u : Value) => World.cell?_setCell_far W ⟨w.heap.size + 1 + 1, i, none⟩ ⟨w2.heap.size, j, none⟩ u (by simp; omega)
    have nf3 := fun (W : World) (i j : Nat) (u : Value) => World.cell?_setCell_far W ⟨w.heap.size + 1 + 1 + 1, i, none⟩ ⟨w2.heap.size + 1, j, none⟩ u (by simp; omega)
    have nf4 := fun (W : World) (i j : Nat) (u : Value) => World.cell?_setCell_far W ⟨w.heap.size + 1 + 1 + 1, i, none⟩ ⟨w2.heap.size, j, none⟩ u (by simp; omega)
    have ndr : ∀ (W : World) (a : Addr), W.drew.cell? a = W.cell? a := fun _ _ => rfl
    clear e1 e2 e3 e4 e5 e6
    go_region_held3 (fun w' => w'.cell? ⟨w2.heap.size + 1, 0, none⟩ = some (.slice A6 (pack MN).length c6) ∧ w'.cell? ⟨w2.heap.size + 1, 1, none⟩ = some (.int .i64 MN.length) ∧ w'.cell? ⟨w2.heap.size, 0, none⟩ = some (.int .i64 n1) ∧ w'.cell? ⟨w2.heap.size, 1, none⟩ = some (.int .i64 t) ∧ w'.cell? ⟨w2.heap.size, 2, none⟩ = some (.int .i64 d1) ∧ w'.cell? ⟨w2.heap.size, 3, none⟩ = some (.bool th) ∧ w'.cell? ⟨w2.heap.size, 4, none⟩ = some (.int .u64 tp) ∧ w'.cell? ⟨w2.heap.size, 5, none⟩ = some (.int .u8 tl) ∧ w'.cell? ⟨w2.heap.size, 6, none⟩ = some (.int .u8 tb)) (first | (simp only [ndr]; with_reducible exact dq) | (simp only [ndr, nf1, nf2, nf3, nf4]; with_reducible exact dq)) (fail)
    go_wp2_with fail
    have nb1 : (Value.slice A6 (pack MN).length c6).ownBlock ≠ some (w.heap.size + 2) := E6.out.ne (by omega)
    have nb2 : (Value.slice A6 (pack MN).length c6).ownBlock ≠ some (w.heap.size + 3) := E6.out.ne (by omega)
    have f1 := (E3.out.set2 (.slice A6 (pack MN).length c6) (.int .i64 MN.length)).far7 (g := w.heap.size + 3) (by omega) (.int .i64 n1) (.int .i64 t) (.int .i64 d1) (.bool th) (.int .u64 tp) (.int .u8 tl) (.int .u8 tb)
    have f2 := ((E4.out.far ⟨w.heap.size + 2, 0, none⟩ (.slice A6 (pack MN).length c6) (by simp)).far ⟨w.heap.size + 2, 1, none⟩ (.int .i64 MN.length) (by simp)).set7 (.int .i64 n1) (.int .i64 t) (.int .i64 d1) (.bool th) (.int .u64 tp) (.int .u8 tl) (.int .u8 tb)
    have f3 := below_set7 ((E5.out.setCell (p := ⟨w.heap.size + 2, 0, none⟩) (by simp) (.slice A6 (pack MN).length c6)).setCell (p := ⟨w.heap.size + 2, 1, none⟩) (by simp) (.int .i64 MN.length)) (g := w.heap.size + 3) (by omega) (.int .i64 n1) (.int .i64 t) (.int .i64 d1) (.bool th) (.int .u64 tp) (.int .u8 tl) (.int .u8 tb)
    have f4 := ((E6.out.far (p := ⟨w.heap.size + 2, 0, none⟩) nb1 (.slice A6 (pack MN).length c6)).far (p := ⟨w.heap.size + 2, 1, none⟩) nb1 (.int .i64 MN.length)).far7 nb2 (.int .i64 n1) (.int .i64 t) (.int .i64 d1) (.bool th) (.int .u64 tp) (.int .u8 tl) (.int .u8 tb)
    unfold seven at f1 f2 f3 f4
    obtain ⟨⟨s0, s1⟩, -⟩ := f1.duo
    obtain ⟨⟨u0, u1, u2, u3, u4, u5, u6⟩, -⟩ := f2.sept
    refine bodyPost_ret (v := .tuple #[.agg #[.slice A6 (pack MN).length c6, .int .i64 MN.length], .agg #[.int .i64 n1, .int .i64 t, .int .i64 d1, .bool th, .int .u64 tp, .int .u8 tl, .int .u8 tb], .int .u16 0]) (by simp [results, Tryz.results71, go_sem, s0, s1, u0, u1, u2, u3, u4, u5, u6]) rfl ⟨?_, f3.drew⟩
    rw [HRR.out]
    exact ⟨A6, _, c6, rfl, rfl, (f4.mono (by omega)).drew⟩
end Go.Proofs.YtmcdollkmlcpbaaGreatDoor
namespace Go.Proofs.YtmcdollkmlcpbaaGreatDoor
open Go.RowKit
set_option maxRecDepth 100000
theorem Ks.five (w : World) (b1 b2 b3 b4 b5 : Array Value) (t1 t2 t3 t4 t5 : TypeId) : Ks (((((w.alloc (.cells b1 t1)).alloc (.cells b2 t2)).alloc (.cells b3 t3)).alloc (.cells b4 t4)).alloc (.cells b5 t5)) [kW w w.heap.size (Nat.le_refl _), kB w.heap.size t1 b1, kB (w.heap.size + 1) t2 b2, kB (w.heap.size + 2) t3 b3, kB (w.heap.size + 3) t4 b4, kB (w.heap.size + 4) t5 b5] := by
 have s2 : ((((w.alloc (.cells b1 t1)).alloc (.cells b2 t2)).alloc (.cells b3 t3)).alloc (.cells b4 t4)).heap.size = w.heap.size + 4 := by simp
 have h := (Ks.four w b1 b2 b3 b4 t1 t2 t3 t4).alloc (.cells b5 t5)
 have n := Blk.new ((((w.alloc (.cells b1 t1)).alloc (.cells b2 t2)).alloc (.cells b3 t3)).alloc (.cells b4 t4)) t5 b5
 rw [s2] at n
 intro k hk
 simp only [List.mem_cons, List.not_mem_nil, or_false] at hk
 rcases hk with rfl | rfl | rfl | rfl | rfl | rfl
 ·exact h.get 0 rfl
 ·exact h.get 1 rfl
 ·exact h.get 2 rfl
 ·exact h.get 3 rfl
 ·exact h.get 4 rfl
 ·exact n
def putC (l : List UInt8) (n : Int) (e : EC) (t : Int) (v : Nat) : List Bool × EC × Nat :=
 if soundB l n = false then ([], ec0, 11) else if mayC e t ≠ 0 then ([], ec0, mayC e t) else (bitl l n.toNat ++ (encC e t v).1, (encC e t v).2, 0)
theorem packN0 : pack [] = [] := rfl
set_option maxHeartbeats 2000000 in
theorem cput_any (A : Option Addr) (c : Nat) (l : List UInt8) (nb : Int) (n la de t : Int) (h : Bool) (p L X v : Nat) (w : World) (hb : Bs w A l) (hnb : -9223372036854775808 ≤ nb ∧ nb ≤ 9223372036854775807) (hl : l.length ≤ 100000)
  (hn : in64 n) (hla : in64 la) (hde : in64 de) (ht : in64 t) (hp : p < 18446744073709551616) (hL : L < 256) (hX : X < 256) (hv : v < 18446744073709551616) (hT : Tab w) :
  Calls Tryz.prog 56 #[.agg #[.slice A l.length c, .int .i64 nb], .agg #[.int .i64 n, .int .i64 la, .int .i64 de, .bool h, .int .u64 p, .int .u8 L, .int .u8 X], .agg #[.int .i64 t, .int .u64 v]] w fun e w' => OutC (putC l nb ⟨n, la, de, ⟨h, p, L, X⟩⟩ t v) .u16 w.heap.size e w' ∧ Below w.heap.size w w' := by
 have hlm : l.length ≤ maxLen := by unfold maxLen; omega
 have K := ((Ks.five w #[.slice A l.length c, .int .i64 nb] #[.int .i64 n, .int .i64 la, .int .i64 de, .bool h, .int .u64 p, .int .u8 L, .int .u8 X] #[.int .i64 t, .int .u64 v] #[.slice none 0 0, .int .i64 0] #[.int .i64 0, .int .i64 0, .int .i64 0, .bool false, .int .u64 0, .int .u8 0, .int .u8 0] 33 88 42 33 88)).bs_ (hb.below (Ks.five w _ _ _ _ _ _ _ _ _ _ |>.top 0)) |>.tab_ (tabGo hT (Ks.five w _ _ _ _ _ _ _ _ _ _ |>.top 0))
 obtain ⟨R, hR⟩ : ∃ R, R = putC l nb ⟨n, la, de, ⟨h, p, L, X⟩⟩ t v := ⟨_, rfl⟩
 rw [← hR]
 have HR := Lib.hid hR
 clear hR
 go_enter Tryz.func56, Tryz.ntmps56
 go_wp2_with fail
 generalize ((((w.alloc (.cells #[.slice A l.length c, .int .i64 nb] 33)).alloc (.cells #[.int .i64 n, .int .i64 la, .int .i64 de, .bool h, .int .u64 p, .int .u8 L, .int .u8 X] 88)).alloc (.cells #[.int .i64 t, .int .u64 v] 42)).alloc (.cells #[.slice none 0 0, .int .i64 0] 33)).alloc (.cells #[.int .i64 0, .int .i64 0, .int .i64 0, .bool false, .int .u64 0, .int .u8 0, .int .u8 0] 88) = W0 at *
 have HK := Lib.hid K
 clear K hT hb
 have F0 := Lib.hid (fun (ks : List Kp) (wx : World) (hK : Ks wx ks) (i j k : Nat) (e1 : ks[i]? = some (kW w w.heap.size (Nat.le_refl _))) (e2 : ks[j]? = some (kB (w.heap.size + 3) 33 #[.slice none 0 0, .int .i64 0])) (e3 : ks[k]? = some (kB (w.heap.size + 4) 88 #[.int .i64 0, .int .i64 0, .int .i64 0, .bool false, .int .u64 0, .int .u8 0, .int .u8 0])) =>
  (⟨((hK.blk j e2).set2 (.slice none 0 0) (.int .i64 0)).far7 (g := w.heap.size + 4) (by omega) (.int .i64 0) (.int .i64 0) (.int .i64 0) (.bool false) (.int .u64 0) (.int .u8 0) (.int .u8 0),
   (((hK.blk k e3).far ⟨w.heap.size + 3, 0, none⟩ (.slice none 0 0) (by simp)).far ⟨w.heap.size + 3, 1, none⟩ (.int .i64 0) (by simp)).set7 (.int .i64 0) (.int .i64 0) (.int .i64 0) (.bool false) (.int .u64 0) (.int .u8 0) (.int .u8 0),
   below_set7 (((hK.top i e1).setCell (p := ⟨w.heap.size + 3, 0, none⟩) (by simp) (.slice none 0 0)).setCell (p := ⟨w.heap.size + 3, 1, none⟩) (by simp) (.int .i64 0)) (g := w.heap.size + 4) (by omega) (.int .i64 0) (.int .i64 0) (.int .i64 0) (.bool false) (.int .u64 0) (.int .u8 0) (.int .u8 0)⟩ : _ ∧ _ ∧ _))
 refine (sound_any A c l nb W0 (HK.out.bs 1) hnb hlm).mono ?_
 rintro e w1 ⟨rfl, b1⟩
 replace HK := Lib.hid (HK.out.go b1)
 clear b1
 obtain ⟨⟨a0, a1, a2, a3, a4, a5, a6⟩, -⟩ := (HK.out.blk 4).sept
 obtain ⟨⟨c0, c1⟩, -⟩ := (HK.out.blk 5).duo
 obtain ⟨⟨x0, x1⟩, -⟩ := (HK.out.blk 3).duo
 obtain ⟨⟨r0, r1⟩, r2, r3⟩ := (HK.out.blk 6).duo
 obtain ⟨⟨q0, q1, q2, q3, q4, q5, q6⟩, g0, g1, g2, g3, g4, g5, g6⟩ := (HK.out.blk 7).sept
 cases hs : soundB l nb
 ·have Hs := Lib.hid hs
  clear hs
  go_wp2_with fail
  obtain ⟨f1, f2, f3⟩ := F0.out _ _ HK.out 2 6 7 rfl rfl rfl
  unfold seven at f1 f2 f3
  obtain ⟨⟨s0, s1⟩, -⟩ := f1.duo
  obtain ⟨⟨u0, u1, u2, u3, u4, u5, u6⟩, -⟩ := f2.sept
  refine bodyPost_ret (v := .tuple #[.agg #[.slice none 0 0, .int .i64 0], .agg #[.int .i64 0, .int .i64 0, .int .i64 0, .bool false, .int .u64 0, .int .u8 0, .int .u8 0], .int .u16 11]) (by simp [results, Tryz.results56, go_sem, s0, s1, u0, u1, u2, u3, u4, u5, u6]) rfl ⟨?_, f3⟩
  have : R = ([], ec0, 11) := by rw [HR.out]; unfold putC; rw [if_pos Hs.out]
  rw [this]
  exact ⟨none, 0, 0, rfl, rfl, OwnB.nil _ _⟩
 ·obtain ⟨m, rfl, hm8, -⟩ := sound_nat hs
  have Hs := Lib.hid hs
  clear hs
  have HC := Lib.hid (cencode_any n la de t h p L X v w1 hn hla hde ht hp hL hX hv (HK.out.tab 0))
  go_wp2_with fail
  refine HC.out.mono ?_
  clear HC
  rintro e w2 ⟨⟨A2, n2, c2, rfl, rfl, o2⟩, b2⟩
  have HZ := Lib.hid (show w.heap.size + 5 ≤ w2.heap.size by have := b2.size; have := (HK.out.blk 7).lt; omega)
  by_cases hm : mayC ⟨n, la, de, ⟨h, p, L, X⟩⟩ t = 0
  ·have hone : oneC ⟨n, la, de, ⟨h, p, L, X⟩⟩ t v = ((encC ⟨n, la, de, ⟨h, p, L, X⟩⟩ t v).1, (encC ⟨n, la, de, ⟨h, p, L, X⟩⟩ t v).2, 0) := by unfold oneC; rw [if_neg (by rw [hm]; simp)]
   rw [hone] at o2 ⊢
   have hRR : R = (bitl l m ++ (encC ⟨n, la, de, ⟨h, p, L, X⟩⟩ t v).1, (encC ⟨n, la, de, ⟨h, p, L, X⟩⟩ t v).2, 0) := by rw [HR.out]; unfold putC; rw [if_neg (by rw [Hs.out]; decide), if_neg (by rw [hm]; simp), Int.toNat_natCast]
   have hlen := encC_length (e := ⟨n, la, de, ⟨h, p, L, X⟩⟩) (by
    refine ⟨?_, hn, hla, hde, hp⟩
    cases hq : soundC ⟨n, la, de, ⟨h, p, L, X⟩⟩
    ·unfold mayC at hm; rw [if_pos hq] at hm; cases hm
    ·rfl) t hv
   obtain ⟨M, n1, t1, d1, th, tp, tl, tb, hMT⟩ : ∃ M n1 t1 d1 th tp tl tb, encC ⟨n, la, de, ⟨h, p, L, X⟩⟩ t v = (M, ⟨n1, t1, d1, ⟨th, tp, tl, tb⟩⟩) := ⟨_, _, _, _, _, _, _, _, rfl⟩
   rw [hMT] at hRR hlen o2 ⊢
   simp only at hRR hlen o2 ⊢
   obtain ⟨BS, hBS⟩ : ∃ BS, BS = bitl l m ++ M := ⟨_, rfl⟩
   rw [← hBS] at hRR
   have HRR := Lib.hid hRR
   have HMl := Lib.hid hlen.2
   have K2 := (((HK.out.go b2).own_ o2).box #[.slice A2 (pack M).length c2, .int .i64 M.length] 33).box #[.int .i64 n1, .int .i64 t1, .int .i64 d1, .bool th, .int .u64 tp, .int .u8 tl, .int .u8 tb] 88
   simp only [World.size_alloc] at K2
   replace HK := Lib.hid K2
   have z2 := b2.size
   clear K2 b2 o2 hone hRR hMT hlen hm a0 a1 a2 a3 a4 a5 a6 c0 c1 x0 x1 r0 r1 r2 r3 q0 q1 q2 q3 q4 q5 q6 g0 g1 g2 g3 g4 g5 g6
   obtain ⟨⟨x0, x1⟩, -⟩ := (HK.out.blk 6).duo
   obtain ⟨⟨y0, y1⟩, -⟩ := (HK.out.blk 1).duo
   go_wp2_with fail
   have K4 := HK.out.box #[.slice A l.length c, .int .i64 m, .slice A2 (pack M).length c2, .int .i64 M.length] 33
   simp only [World.size_alloc] at K4
   obtain ⟨W4, hW4⟩ : ∃ W4, W4 = ((w2.alloc (.cells #[.slice A2 (pack M).length c2, .int .i64 M.length] 33)).alloc (.cells #[.int .i64 n1, .int .i64 t1, .int .i64 d1, .bool th, .int .u64 tp, .int .u8 tl, .int .u8 tb] 88)).alloc (.cells #[.slice A l.length c, .int .i64 m, .slice A2 (pack M).length c2, .int .i64 M.length] 33) := ⟨_, rfl⟩
   have z4 : W4.heap.size = w2.heap.size + 3 := by rw [hW4]; simp
   rw [← hW4] at K4 ⊢
   replace HK := Lib.hid K4
   have b11 := HK.out.blk 0
   have HBs : BsL W4 (some ⟨w2.heap.size + 2, 0, none⟩) [(l, (m : Int)), (pack M, (M.length : Int))] := fun i e hi => by
    match i, hi with
    | 0, hi =>
     simp at hi
     subst hi
     exact ⟨_, _, A, c, rfl, b11.cell 0, b11.cell 1, HK.out.bs 5, by simp only; omega⟩
    | 1, hi =>
     simp at hi
     subst hi
     exact ⟨_, _, A2, c2, rfl, b11.cell 2, b11.cell 3, (HK.out.own 3).bs, by simp only; have := HMl.out; omega⟩
    | i + 2, hi => simp at hi
   have hJ := join_ok (some ⟨w2.heap.size + 2, 0, none⟩) 2 [(l, (m : Int)), (pack M, (M.length : Int))] W4 HBs (soundE_two Hs.out M) (by simp) (by
    intro e he
    simp at he
    rcases he with rfl | rfl
    ·simp only; omega
    ·simp only; rw [pack_length]; have := HMl.out; unfold Go.Proofs.YtmcdollkmlcpbaaGreatDoor.nb; omega)
   rw [catE_two, ← hBS] at hJ
   have HJ := Lib.hid hJ
   clear hJ HBs b11 hBS hW4 K4 x0 x1 y0 y1
   refine HJ.out.mono ?_
   clear HJ
   rintro e w5 ⟨A5, c5, rfl, o5, b5⟩
   have K6 := ((HK.out.go b5).own_ o5).box #[.slice A5 (pack BS).length c5, .int .i64 BS.length] 33
   have z5 := b5.size
   replace HK := Lib.hid K6
   clear K6 b5 o5
   go_upto_region 9 with fail
   have W6z : (w5.alloc (.cells #[.slice A5 (pack BS).length c5, .int .i64 BS.length] 33)).heap.size = w5.heap.size + 1 := by simp
   obtain ⟨W7, hW7⟩ : ∃ W7, W7 = w5.alloc (.cells #[.slice A5 (pack BS).length c5, .int .i64 BS.length] 33) := ⟨_, rfl⟩
   rw [← hW7] at HK W6z ⊢
   have E1 := Lib.hid (HK.out.blk 0)
   have E2 := Lib.hid (HK.out.blk 3)
   have E3 := Lib.hid (HK.out.blk 12)
   have E4 := Lib.hid (HK.out.blk 13)
   have E5 := Lib.hid (HK.out.top 8)
   have E6 := Lib.hid (HK.out.own 1)
   have z1 := (HK.out.blk 13).lt
   have zw : w.heap.size + 5 ≤ w2.heap.size := HZ.out
   obtain ⟨⟨v0, v1⟩, v2, v3⟩ := E3.out.duo
   obtain ⟨⟨y0, y1, y2, y3, y4, y5, y6⟩, x0, x1, x2, x3, x4, x5, x6⟩ := E4.out.sept
   have dq : W7.cell? ⟨w5.heap.size, 0, none⟩ = some (.slice A5 (pack BS).length c5) ∧ W7.cell? ⟨w5.heap.size, 1, none⟩ = some (.int .i64 BS.length) ∧ W7.cell? ⟨w2.heap.size + 1, 0, none⟩ = some (.int .i64 n1) ∧ W7.cell? ⟨w2.heap.size + 1, 1, none⟩ = some (.int .i64 t1) ∧ W7.cell? ⟨w2.heap.size + 1, 2, none⟩ = some (.int .i64 d1) ∧ W7.cell? ⟨w2.heap.size + 1, 3, none⟩ = some (.bool th) ∧ W7.cell? ⟨w2.heap.size + 1, 4, none⟩ = some (.int .u64 tp) ∧ W7.cell? ⟨w2.heap.size + 1, 5, none⟩ = some (.int .u8 tl) ∧ W7.cell? ⟨w2.heap.size + 1, 6, none⟩ = some (.int .u8 tb) := ⟨E1.out.cell 0, E1.out.cell 1, E2.out.cell 0, E2.out.cell 1, E2.out.cell 2, E2.out.cell 3, E2.out.cell 4, E2.out.cell 5, E2.out.cell 6⟩
   have nf1 := fun (W : World) (i j : Nat) (u : Value) => World.cell?_setCell_far W ⟨w.heap.size + 1 + 1 + 1, i, none⟩ ⟨w5.heap.size, j, none⟩ u (by simp; omega)
   have nf2 := fun (W : World) (i j : Nat) (u : Value) => World.cell?_setCell_far W ⟨w.heap.size + 1 + 1 + 1, i, none⟩ ⟨w2.heap.size + 1, j, none⟩ u (by simp; omega)
   have nf3 := fun (W : World) (i j : Nat) (u : Value) => World.cell?_setCell_far W ⟨w.heap.size + 1 + 1 + 1 + 1, i, none⟩ ⟨w5.heap.size, j, none⟩ u (by simp; omega)
   have nf4 := fun (W : World) (i j : Nat) (u : Value) => World.cell?_setCell_far W ⟨w.heap.size + 1 + 1 + 1 + 1, i, none⟩ ⟨w2.heap.size + 1, j, none⟩ u (by simp; omega)
   have ndr : ∀ (W : World) (a : Addr), W.drew.cell? a = W.cell? a := fun _ _ => rfl
   clear HK hW7 F0
   go_region_held3 (fun w' => w'.cell? ⟨w5.heap.size, 0, none⟩ = some (.slice A5 (pack BS).length c5) ∧ w'.cell? ⟨w5.heap.size, 1, none⟩ = some (.int .i64 BS.length) ∧ w'.cell? ⟨w2.heap.size + 1, 0, none⟩ = some (.int .i64 n1) ∧ w'.cell? ⟨w2.heap.size + 1, 1, none⟩ = some (.int .i64 t1) ∧ w'.cell? ⟨w2.heap.size + 1, 2, none⟩ = some (.int .i64 d1) ∧ w'.cell? ⟨w2.heap.size + 1, 3, none⟩ = some (.bool th) ∧ w'.cell? ⟨w2.heap.size + 1, 4, none⟩ = some (.int .u64 tp) ∧ w'.cell? ⟨w2.heap.size + 1, 5, none⟩ = some (.int .u8 tl) ∧ w'.cell? ⟨w2.heap.size + 1, 6, none⟩ = some (.int .u8 tb)) (first | (simp only [ndr]; with_reducible exact dq) | (simp only [ndr, nf1, nf2, nf3, nf4]; with_reducible exact dq)) (fail)
   go_wp2_with fail
   have nb1 : (Value.slice A5 (pack BS).length c5).ownBlock ≠ some (w.heap.size + 3) := E6.out.ne (by omega)
   have nb2 : (Value.slice A5 (pack BS).length c5).ownBlock ≠ some (w.heap.size + 4) := E6.out.ne (by omega)
   have f1 := (E3.out.set2 (.slice A5 (pack BS).length c5) (.int .i64 BS.length)).far7 (g := w.heap.size + 4) (by omega) (.int .i64 n1) (.int .i64 t1) (.int .i64 d1) (.bool th) (.int .u64 tp) (.int .u8 tl) (.int .u8 tb)
   have f2 := ((E4.out.far ⟨w.heap.size + 3, 0, none⟩ (.slice A5 (pack BS).length c5) (by simp)).far ⟨w.heap.size + 3, 1, none⟩ (.int .i64 BS.length) (by simp)).set7 (.int .i64 n1) (.int .i64 t1) (.int .i64 d1) (.bool th) (.int .u64 tp) (.int .u8 tl) (.int .u8 tb)
   have f3 := below_set7 ((E5.out.setCell (p := ⟨w.heap.size + 3, 0, none⟩) (by simp) (.slice A5 (pack BS).length c5)).setCell (p := ⟨w.heap.size + 3, 1, none⟩) (by simp) (.int .i64 BS.length)) (g := w.heap.size + 4) (by omega) (.int .i64 n1) (.int .i64 t1) (.int .i64 d1) (.bool th) (.int .u64 tp) (.int .u8 tl) (.int .u8 tb)
   have f4 := ((E6.out.far (p := ⟨w.heap.size + 3, 0, none⟩) nb1 (.slice A5 (pack BS).length c5)).far (p := ⟨w.heap.size + 3, 1, none⟩) nb1 (.int .i64 BS.length)).far7 nb2 (.int .i64 n1) (.int .i64 t1) (.int .i64 d1) (.bool th) (.int .u64 tp) (.int .u8 tl) (.int .u8 tb)
   unfold seven at f1 f2 f3 f4
   obtain ⟨⟨s0, s1⟩, -⟩ := f1.duo
   obtain ⟨⟨u0, u1, u2, u3, u4, u5, u6⟩, -⟩ := f2.sept
   refine bodyPost_ret (v := .tuple #[.agg #[.slice A5 (pack BS).length c5, .int .i64 BS.length], .agg #[.int .i64 n1, .int .i64 t1, .int .i64 d1, .bool th, .int .u64 tp, .int .u8 tl, .int .u8 tb], .int .u16 0]) (by simp [results, Tryz.results56, go_sem, s0, s1, u0, u1, u2, u3, u4, u5, u6]) rfl ⟨?_, f3.drew⟩
   rw [HRR.out]
   exact ⟨A5, _, c5, rfl, rfl, (f4.mono (by omega)).drew⟩
  ·have hone : oneC ⟨n, la, de, ⟨h, p, L, X⟩⟩ t v = ([], ec0, mayC ⟨n, la, de, ⟨h, p, L, X⟩⟩ t) := by unfold oneC; rw [if_pos hm]
   rw [hone] at o2 ⊢
   obtain ⟨ec, hec⟩ : ∃ ec, ec = mayC ⟨n, la, de, ⟨h, p, L, X⟩⟩ t := ⟨_, rfl⟩
   have hRR : R = ([], ec0, ec) := by rw [HR.out]; unfold putC; rw [if_neg (by rw [Hs.out]; decide), if_pos hm, hec]
   rw [← hec] at hm ⊢
   have HRR := Lib.hid hRR
   have K2 := ((HK.out.go b2).box #[.slice A2 (pack []).length c2, .int .i64 0] 33).box #[.int .i64 0, .int .i64 0, .int .i64 0, .bool false, .int .u64 0, .int .u8 0, .int .u8 0] 88
   simp only [World.size_alloc] at K2
   replace HK := Lib.hid K2
   have k0 : ((ec : Int) == 0) = false := beq_eq_false_iff_ne.2 (by omega)
   have k2 : ((ec : Int) != 0) = true := by simpa using hm
   have k3 : ¬ (ec : Int) = 0 := by omega
   clear K2 b2 o2 hone hRR hec a0 a1 a2 a3 a4 a5 a6 c0 c1 x0 x1 r0 r1 r2 r3 q0 q1 q2 q3 q4 q5 q6 g0 g1 g2 g3 g4 g5 g6
   obtain ⟨⟨r0, r1⟩, r2, r3⟩ := (HK.out.blk 8).duo
   obtain ⟨⟨q0, q1, q2, q3, q4, q5, q6⟩, g0, g1, g2, g3, g4, g5, g6⟩ := (HK.out.blk 9).sept
   simp only [ec0, xv0]
   go_wp2_with fail
   obtain ⟨f1, f2, f3⟩ := F0.out _ _ HK.out 4 8 9 rfl rfl rfl
   unfold seven at f1 f2 f3
   obtain ⟨⟨s0, s1⟩, -⟩ := f1.duo
   obtain ⟨⟨u0, u1, u2, u3, u4, u5, u6⟩, -⟩ := f2.sept
   refine bodyPost_ret (v := .tuple #[.agg #[.slice none 0 0, .int .i64 0], .agg #[.int .i64 0, .int .i64 0, .int .i64 0, .bool false, .int .u64 0, .int .u8 0, .int .u8 0], .int .u16 ec]) (by simp [results, Tryz.results56, go_sem, s0, s1, u0, u1, u2, u3, u4, u5, u6]) rfl ⟨?_, f3⟩
   rw [HRR.out]
   refine ⟨none, 0, 0, (show 0 = (pack []).length from rfl), rfl, ?_⟩
   simp only [packN0]
   exact OwnB.nil _ _
end Go.Proofs.YtmcdollkmlcpbaaGreatDoor
