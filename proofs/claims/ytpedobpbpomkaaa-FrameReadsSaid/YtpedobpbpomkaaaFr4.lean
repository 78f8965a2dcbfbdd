/- Layer 7: Encode of the document. -/
import Derived.Test.YtpedobpbpomkaaaFr2
import Derived.Test.YtpedobpbpomkaaaFr3
import Derived.Test.YtpedobpbpomkaaaCrcS
set_option linter.unusedSimpArgs false
set_option linter.unusedVariables false
namespace Go.Proofs.Ytpedobpbpomkaaa
open Go.RowKit
set_option maxRecDepth 100000

theorem own_built (w : World) (bs : List UInt8) {base : Nat} (hb : base ≤ w.heap.size) (hl : bs.length ≤ 100000) : OwnB (w.alloc (.cells (bs.map bv).toArray 5)) base (.slice (some ⟨w.heap.size, 0, none⟩) bs.length bs.length) bs :=
  ⟨by simp, .inr ⟨w.heap.size, bs.length, (bs.map bv).toArray, rfl, hb, heap_alloc_new w _, Nat.le_refl _, by unfold maxLen; omega, by simp, by simp [List.take_of_length_le]⟩⟩
theorem rput7_N (v wd N : Nat) (A : Option Addr) (c : Nat) (L : List UInt8) (base : Nat) (w : World) (hN : N = L.length) (hown : OwnB w base (.slice A N c) L) (hwd : wd ≤ 8) (hv : v < 18446744073709551616) (hL : N ≤ 100000) (hb : base ≤ w.heap.size) :
    Calls Try.prog 33 #[.slice A N c, .int .u64 (v : Nat), .int .i64 (wd : Nat)] w fun e w' => ∃ A' c' N', e = .returned (.slice A' N' c') ∧ Hid (N' = N + wd ∧ OwnB w' base (.slice A' N' c') (L ++ be wd v) ∧ Below base w w') := by
  subst hN
  exact rput7_any v wd A c L base w hown hwd hv hL hb
theorem be_one {x : Nat} (h : x < 256) : be 1 x = [UInt8.ofNat x] := by simp [be, Nat.mod_eq_of_lt h]
theorem body_eq (f : FrD) (hk : f.kd < 256) : bodyF f = [68, 89, UInt8.ofNat f.kd] ++ be 4 f.ep ++ be 4 f.se ++ be 4 f.fc ++ be 4 f.fb ++ be 4 f.fn ++ be 4 f.cn ++ [if f.cl then 1 else 0] ++ be 8 f.sm ++ be 4 f.n.toNat ++ f.l := by
  have h1 : be 1 (if f.cl then 1 else 0) = [if f.cl then 1 else 0] := by cases f.cl <;> rfl
  unfold bodyF segF
  rw [be_one hk, h1]
  simp
theorem blk_says {w : World} {g : Nat} {t : TypeId} {cs : Array Value} (h : Blk w g t cs) : cellsSay w g 0 cs.toList := cells_say h _ 0 rfl

theorem rfenc_no (f : FrD) (A : Option Addr) (c : Nat) (w : World) (hA : Bs w A f.l) (ho : f.ok) (hL : f.l.length ≤ 100000) (hm : mayF f = false) :
    Calls Try.prog 15 #[.agg (frC f A c)] w fun e w' => e = .returned (.tuple #[.slice none 0 0, .int .i64 70]) ∧ Below w.heap.size w w' := by
  have hM := rfmay_any f A c (w.alloc (.cells (frC f A c) 30)) (hA.below (below_alloc w _)) ho hL
  rw [hm] at hM
  clear hA ho hm
  obtain ⟨kd, ep, se, fc, fb, fn, cn, cl, sm, l, n⟩ := f
  simp only [frC] at hM ⊢
  have HM := Lib.hid hM
  have HK := Lib.hid ((Qs.zero w).box #[.int .u8 (kd : Nat), .int .u32 (ep : Nat), .int .u32 (se : Nat), .int .u32 (fc : Nat), .int .u32 (fb : Nat), .int .u32 (fn : Nat), .int .u32 (cn : Nat), .bool cl, .int .u64 (sm : Nat), .slice A l.length c, .int .i64 n] 30)
  have C := HK.out.says
  simp only [sayAll, cellsSay, qB, qW, Nat.reduceAdd, and_true, true_and] at C
  clear hM
  go_enter Try.func15, Try.ntmps15
  go_wp2_with fail
  refine HM.out.mono ?_
  rintro e w1 ⟨rfl, b1⟩
  have HK1 := Lib.hid (HK.out.go b1)
  clear b1
  go_wp2_with fail
  go_ret2
  exact ⟨rfl, HK1.out.top 1⟩

set_option maxHeartbeats 16000000 in
theorem rfenc_yes (f : FrD) (A : Option Addr) (c : Nat) (w : World) (hA : Bs w A f.l) (ho : f.ok) (hm : mayF f = true) :
    Calls Try.prog 15 #[.agg (frC f A c)] w fun e w' => ∃ A' c' N, e = .returned (.tuple #[.slice A' N c', .int .i64 0]) ∧ Hid (N = (encF f).length ∧ OwnB w' w.heap.size (.slice A' N c') (encF f) ∧ Below w.heap.size w w') := by
  obtain ⟨hn0, hn1, hl⟩ := mayF_n hm
  have hM := rfmay_any f A c (w.alloc (.cells (frC f A c) 30)) (hA.below (below_alloc w _)) ho (by omega)
  rw [hm] at hM
  have hbd := body_eq f ho.1
  obtain ⟨E, hE⟩ : ∃ E, E = encF f := ⟨_, rfl⟩
  rw [← hE]
  have hE2 : E = bodyF f ++ be 4 (crcL (bodyF f)) := hE
  rw [hbd] at hE2
  obtain ⟨o1, o2, o3, o4, o5, o6, o7, o8, -, -⟩ := ho
  clear hm hbd hE
  obtain ⟨kd, ep, se, fc, fb, fn, cn, cl, sm, l, n⟩ := f
  simp only [frC] at hM hA hn0 hn1 hl hE2 o1 o2 o3 o4 o5 o6 o7 o8 ⊢
  obtain ⟨m, rfl⟩ := Int.eq_ofNat_of_zero_le hn0
  simp only [Int.toNat_natCast] at hE2
  have HE := Lib.hid hE2
  have HM := Lib.hid hM
  have HA := Lib.hid hA
  clear hM hA hE2 hn0
  have u1 : IntKind.u64.wrap (ep : Int) = ep := by rw [IntKind.wrap_u64]; omega
  have u2 : IntKind.u64.wrap (se : Int) = se := by rw [IntKind.wrap_u64]; omega
  have u3 : IntKind.u64.wrap (fc : Int) = fc := by rw [IntKind.wrap_u64]; omega
  have u4 : IntKind.u64.wrap (fb : Int) = fb := by rw [IntKind.wrap_u64]; omega
  have u5 : IntKind.u64.wrap (fn : Int) = fn := by rw [IntKind.wrap_u64]; omega
  have u6 : IntKind.u64.wrap (cn : Int) = cn := by rw [IntKind.wrap_u64]; omega
  have u7 : IntKind.u64.wrap (m : Int) = m := by rw [IntKind.wrap_u64]; omega
  obtain ⟨x, hx⟩ : ∃ x : UInt8, x = UInt8.ofNat kd := ⟨_, rfl⟩
  rw [← hx] at HE
  obtain rfl : kd = x.toNat := by rw [hx]; simp; omega
  clear hx o1
  have HF0 := Lib.hid (Blk.new w 30 #[.int .u8 (x.toNat : Nat), .int .u32 (ep : Nat), .int .u32 (se : Nat), .int .u32 (fc : Nat), .int .u32 (fb : Nat), .int .u32 (fn : Nat), .int .u32 (cn : Nat), .bool cl, .int .u64 (sm : Nat), .slice A l.length c, .int .i64 (m : Nat)])
  have hz0 : w.heap.size + 1 ≤ (w.alloc (.cells #[.int .u8 (x.toNat : Nat), .int .u32 (ep : Nat), .int .u32 (se : Nat), .int .u32 (fc : Nat), .int .u32 (fb : Nat), .int .u32 (fn : Nat), .int .u32 (cn : Nat), .bool cl, .int .u64 (sm : Nat), .slice A l.length c, .int .i64 (m : Nat)] 30)).heap.size := by simp
  go_enter Try.func15, Try.ntmps15
  have C := blk_says HF0.out
  simp only [cellsSay, Nat.reduceAdd, and_true] at C
  go_wp2_with fail
  refine HM.out.mono ?_
  rintro e w1 ⟨rfl, b1⟩
  have HF1 := Lib.hid (Blk.below HF0.out b1 (by simp))
  have HB1 := Lib.hid ((below_alloc w _).trans (b1.mono (by simp)))
  have hz1 : w.heap.size + 1 ≤ w1.heap.size := Nat.le_trans hz0 b1.size
  clear C b1 HM HF0 hz0
  have C := blk_says HF1.out
  simp only [cellsSay, Nat.reduceAdd, and_true] at C
  go_upto_region 5 with fail
  have hO := own_built w1 [68, 89, x] (base := w.heap.size + 1) hz1 (by simp)
  have hb1 := below_alloc w1 (.cells (([68, 89, x] : List UInt8).map bv).toArray 5)
  obtain ⟨w1b, hw1b⟩ : ∃ W, W = w1.alloc (.cells #[.int .u8 68, .int .u8 89, .int .u8 (x.toNat : Nat)] 5) := ⟨_, rfl⟩
  have hO2 : OwnB w1b (w.heap.size + 1) (.slice (some ⟨w1.heap.size, 0, none⟩) 3 3) [68, 89, x] := by rw [hw1b]; exact hO
  have hb1b : Below w1.heap.size w1 w1b := by rw [hw1b]; exact hb1
  rw [← hw1b]
  clear hO hb1 hw1b
  have HF1b := Lib.hid (Blk.below HF1.out hb1b (by omega))
  have HB1b := Lib.hid (HB1.out.trans (Below.mono hb1b (by omega)))
  have hz1b : w.heap.size + 1 ≤ w1b.heap.size := Nat.le_trans hz1 hb1b.size
  obtain ⟨M1, hM1⟩ : ∃ M : List UInt8, M = [68, 89, x] := ⟨_, rfl⟩
  have HM1 := Lib.hid hM1
  have HO1 : Hid (3 = M1.length ∧ OwnB w1b (w.heap.size + 1) (.slice (some ⟨w1.heap.size, 0, none⟩) 3 3) M1) := Lib.hid ⟨by rw [hM1]; rfl, by rw [hM1]; exact hO2⟩
  clear hM1 hb1b hO2
  clear C
  have C := blk_says HF1b.out
  simp only [cellsSay, Nat.reduceAdd, and_true] at C
  have HP := Lib.hid (rput7_N ep 4 3 (some ⟨w1.heap.size, 0, none⟩) 3 M1 (w.heap.size + 1) w1b HO1.out.1 HO1.out.2 (by omega) (by omega) (by omega) hz1b)
  go_wp2_with fail
  refine HP.out.mono ?_
  rintro e w2 ⟨A2, c2, N2, rfl, HR⟩
  have HF2 := Lib.hid (Blk.below HF1b.out HR.out.2.2 (by omega))
  have HB2 := Lib.hid (HB1b.out.trans (Below.mono HR.out.2.2 (by omega)))
  have hz2 : w.heap.size + 1 ≤ w2.heap.size := Nat.le_trans hz1b HR.out.2.2.size
  obtain ⟨M2, hM⟩ : ∃ M : List UInt8, M = M1 ++ be 4 ep := ⟨_, rfl⟩
  have HM2 := Lib.hid hM
  have HO2 : Hid (N2 = M2.length ∧ OwnB w2 (w.heap.size + 1) (.slice A2 N2 c2) M2) := Lib.hid ⟨by rw [hM, List.length_append, be_len, ← HO1.out.1]; exact HR.out.1, by rw [hM]; exact HR.out.2.1⟩
  have HN2 : Hid (N2 = 3 + 4) := Lib.hid HR.out.1
  clear HR hM HP C HO1 HF1b HB1b
  have C := blk_says HF2.out
  simp only [cellsSay, Nat.reduceAdd, and_true] at C
  have HP := Lib.hid (rput7_N se 4 N2 A2 c2 M2 (w.heap.size + 1) w2 HO2.out.1 HO2.out.2 (by omega) (by omega) (by have := HN2.out; omega) hz2)
  go_wp2_with fail
  refine HP.out.mono ?_
  rintro e w3 ⟨A3, c3, N3, rfl, HR⟩
  have HF3 := Lib.hid (Blk.below HF2.out HR.out.2.2 (by omega))
  have HB3 := Lib.hid (HB2.out.trans (Below.mono HR.out.2.2 (by omega)))
  have hz3 : w.heap.size + 1 ≤ w3.heap.size := Nat.le_trans hz2 HR.out.2.2.size
  obtain ⟨M3, hM⟩ : ∃ M : List UInt8, M = M2 ++ be 4 se := ⟨_, rfl⟩
  have HM3 := Lib.hid hM
  have HO3 : Hid (N3 = M3.length ∧ OwnB w3 (w.heap.size + 1) (.slice A3 N3 c3) M3) := Lib.hid ⟨by rw [hM, List.length_append, be_len, ← HO2.out.1]; exact HR.out.1, by rw [hM]; exact HR.out.2.1⟩
  have HN3 : Hid (N3 = 11) := Lib.hid (by have := HN2.out; have := HR.out.1; omega)
  clear HR hM HP C HO2 HF2 HB2
  have C := blk_says HF3.out
  simp only [cellsSay, Nat.reduceAdd, and_true] at C
  have HP := Lib.hid (rput7_N fc 4 N3 A3 c3 M3 (w.heap.size + 1) w3 HO3.out.1 HO3.out.2 (by omega) (by omega) (by have := HN3.out; omega) hz3)
  go_wp2_with fail
  refine HP.out.mono ?_
  rintro e w4 ⟨A4, c4, N4, rfl, HR⟩
  have HF4 := Lib.hid (Blk.below HF3.out HR.out.2.2 (by omega))
  have HB4 := Lib.hid (HB3.out.trans (Below.mono HR.out.2.2 (by omega)))
  have hz4 : w.heap.size + 1 ≤ w4.heap.size := Nat.le_trans hz3 HR.out.2.2.size
  obtain ⟨M4, hM⟩ : ∃ M : List UInt8, M = M3 ++ be 4 fc := ⟨_, rfl⟩
  have HM4 := Lib.hid hM
  have HO4 : Hid (N4 = M4.length ∧ OwnB w4 (w.heap.size + 1) (.slice A4 N4 c4) M4) := Lib.hid ⟨by rw [hM, List.length_append, be_len, ← HO3.out.1]; exact HR.out.1, by rw [hM]; exact HR.out.2.1⟩
  have HN4 : Hid (N4 = 15) := Lib.hid (by have := HN3.out; have := HR.out.1; omega)
  clear HR hM HP C HO3 HF3 HB3
  have C := blk_says HF4.out
  simp only [cellsSay, Nat.reduceAdd, and_true] at C
  have HP := Lib.hid (rput7_N fb 4 N4 A4 c4 M4 (w.heap.size + 1) w4 HO4.out.1 HO4.out.2 (by omega) (by omega) (by have := HN4.out; omega) hz4)
  go_wp2_with fail
  refine HP.out.mono ?_
  rintro e w5 ⟨A5, c5, N5, rfl, HR⟩
  have HF5 := Lib.hid (Blk.below HF4.out HR.out.2.2 (by omega))
  have HB5 := Lib.hid (HB4.out.trans (Below.mono HR.out.2.2 (by omega)))
  have hz5 : w.heap.size + 1 ≤ w5.heap.size := Nat.le_trans hz4 HR.out.2.2.size
  obtain ⟨M5, hM⟩ : ∃ M : List UInt8, M = M4 ++ be 4 fb := ⟨_, rfl⟩
  have HM5 := Lib.hid hM
  have HO5 : Hid (N5 = M5.length ∧ OwnB w5 (w.heap.size + 1) (.slice A5 N5 c5) M5) := Lib.hid ⟨by rw [hM, List.length_append, be_len, ← HO4.out.1]; exact HR.out.1, by rw [hM]; exact HR.out.2.1⟩
  have HN5 : Hid (N5 = 19) := Lib.hid (by have := HN4.out; have := HR.out.1; omega)
  clear HR hM HP C HO4 HF4 HB4
  have C := blk_says HF5.out
  simp only [cellsSay, Nat.reduceAdd, and_true] at C
  have HP := Lib.hid (rput7_N fn 4 N5 A5 c5 M5 (w.heap.size + 1) w5 HO5.out.1 HO5.out.2 (by omega) (by omega) (by have := HN5.out; omega) hz5)
  go_wp2_with fail
  refine HP.out.mono ?_
  rintro e w6 ⟨A6, c6, N6, rfl, HR⟩
  have HF6 := Lib.hid (Blk.below HF5.out HR.out.2.2 (by omega))
  have HB6 := Lib.hid (HB5.out.trans (Below.mono HR.out.2.2 (by omega)))
  have hz6 : w.heap.size + 1 ≤ w6.heap.size := Nat.le_trans hz5 HR.out.2.2.size
  obtain ⟨M6, hM⟩ : ∃ M : List UInt8, M = M5 ++ be 4 fn := ⟨_, rfl⟩
  have HM6 := Lib.hid hM
  have HO6 : Hid (N6 = M6.length ∧ OwnB w6 (w.heap.size + 1) (.slice A6 N6 c6) M6) := Lib.hid ⟨by rw [hM, List.length_append, be_len, ← HO5.out.1]; exact HR.out.1, by rw [hM]; exact HR.out.2.1⟩
  have HN6 : Hid (N6 = 23) := Lib.hid (by have := HN5.out; have := HR.out.1; omega)
  clear HR hM HP C HO5 HF5 HB5
  have C := blk_says HF6.out
  simp only [cellsSay, Nat.reduceAdd, and_true] at C
  have HP := Lib.hid (rput7_N cn 4 N6 A6 c6 M6 (w.heap.size + 1) w6 HO6.out.1 HO6.out.2 (by omega) (by omega) (by have := HN6.out; omega) hz6)
  go_wp2_with fail
  refine HP.out.mono ?_
  rintro e w7 ⟨A7, c7, N7, rfl, HR⟩
  have HF7 := Lib.hid (Blk.below HF6.out HR.out.2.2 (by omega))
  have HB7 := Lib.hid (HB6.out.trans (Below.mono HR.out.2.2 (by omega)))
  have hz7 : w.heap.size + 1 ≤ w7.heap.size := Nat.le_trans hz6 HR.out.2.2.size
  obtain ⟨M7, hM⟩ : ∃ M : List UInt8, M = M6 ++ be 4 cn := ⟨_, rfl⟩
  have HM7 := Lib.hid hM
  have HO7 : Hid (N7 = M7.length ∧ OwnB w7 (w.heap.size + 1) (.slice A7 N7 c7) M7) := Lib.hid ⟨by rw [hM, List.length_append, be_len, ← HO6.out.1]; exact HR.out.1, by rw [hM]; exact HR.out.2.1⟩
  have HN7 : Hid (N7 = 27) := Lib.hid (by have := HN6.out; have := HR.out.1; omega)
  clear HR hM HP C HO6 HF6 HB6
  have C := blk_says HF7.out
  simp only [cellsSay, Nat.reduceAdd, and_true] at C
  obtain ⟨y, hy⟩ : ∃ y : UInt8, y = if cl then 1 else 0 := ⟨_, rfl⟩
  rw [← hy] at HE
  have HY := Lib.hid hy
  clear hy
  go_upto_if 48 with fail
  go_cut [6] (fun s6 wx => s6 = .int .u8 (y.toNat : Nat) ∧ w7 = wx)
  case first =>
    cases cl
    · have hy := HY.out
      go_wp2_with fail
      go_meet
      exact ⟨by rw [hy]; rfl, rfl⟩
    · have hy := HY.out
      go_wp2_with fail
      go_meet
      exact ⟨by rw [hy]; rfl, rfl⟩
  case rest =>
    obtain ⟨rfl, rfl⟩ := hcut
    have hNb := HN7.out
    have hNM := HO7.out.1
    go_upto_region 15 with (at_builtin; go_must (refine appB _ rfl (.tmp 49) (.tmp 51) rfl (w.heap.size + 1) _ M7 rfl (OwnB.alloc HO7.out.2 _) w7.heap.size y rfl ((Blk.new w7 _ _).cell 0) (by omega) (by simp; omega) ?_); intro g9 c9 w9 hown9 hb9)
    have hb9' := ((Below.refl (w.heap.size + 1) w7).alloc hz7 (.cells #[.int .u8 (y.toNat : Nat)] 5)).trans hb9
    have HF9 := Lib.hid (Blk.below HF7.out hb9' (by omega))
    have HB9 := Lib.hid (HB7.out.trans (Below.mono hb9' (by omega)))
    have hz9 : w.heap.size + 1 ≤ w9.heap.size := Nat.le_trans hz7 hb9'.size
    obtain ⟨M9, hM⟩ : ∃ M : List UInt8, M = M7 ++ [y] := ⟨_, rfl⟩
    have HM9 := Lib.hid hM
    have HN9 : Hid (M7.length + 1 = 28) := Lib.hid (by omega)
    have HO9 : Hid (M7.length + 1 = M9.length ∧ OwnB w9 (w.heap.size + 1) (.slice (some ⟨g9, 0, none⟩) (M7.length + 1) c9) M9) := Lib.hid ⟨by rw [hM]; simp, by rw [hM]; exact hown9⟩
    clear hM hb9 hb9' hown9 hNb hNM C
    have hM28 := HN9.out
    rw [hM28] at HO9 ⊢
    clear hM28
    have C := blk_says HF9.out
    simp only [cellsSay, Nat.reduceAdd, and_true] at C
    have HN9b : Hid (28 = 28) := Lib.hid rfl
    have HP := Lib.hid (rput7_N sm 8 28 (some ⟨g9, 0, none⟩) c9 M9 (w.heap.size + 1) w9 HO9.out.1 HO9.out.2 (by omega) (by omega) (by omega) hz9)
    go_wp2_with fail
    refine HP.out.mono ?_
    rintro e w10 ⟨A10, c10, N10, rfl, HR⟩
    have HF10 := Lib.hid (Blk.below HF9.out HR.out.2.2 (by omega))
    have HB10 := Lib.hid (HB9.out.trans (Below.mono HR.out.2.2 (by omega)))
    have hz10 : w.heap.size + 1 ≤ w10.heap.size := Nat.le_trans hz9 HR.out.2.2.size
    obtain ⟨M10, hM⟩ : ∃ M : List UInt8, M = M9 ++ be 8 sm := ⟨_, rfl⟩
    have HM10 := Lib.hid hM
    have HO10 : Hid (N10 = M10.length ∧ OwnB w10 (w.heap.size + 1) (.slice A10 N10 c10) M10) := Lib.hid ⟨by rw [hM, List.length_append, be_len, ← HO9.out.1]; exact HR.out.1, by rw [hM]; exact HR.out.2.1⟩
    have hNl10 : N10 ≤ 36 := by have := HR.out.1; omega
    clear HR hM HP C HO9 HF9 HB9
    have C := blk_says HF10.out
    simp only [cellsSay, Nat.reduceAdd, and_true] at C
    have HP := Lib.hid (rput7_N m 4 N10 A10 c10 M10 (w.heap.size + 1) w10 HO10.out.1 HO10.out.2 (by omega) (by omega) (by omega) hz10)
    go_wp2_with fail
    refine HP.out.mono ?_
    rintro e w11 ⟨A11, c11, N11, rfl, HR⟩
    have HF11 := Lib.hid (Blk.below HF10.out HR.out.2.2 (by omega))
    have HB11 := Lib.hid (HB10.out.trans (Below.mono HR.out.2.2 (by omega)))
    have hz11 : w.heap.size + 1 ≤ w11.heap.size := Nat.le_trans hz10 HR.out.2.2.size
    obtain ⟨M11, hM⟩ : ∃ M : List UInt8, M = M10 ++ be 4 m := ⟨_, rfl⟩
    have HM11 := Lib.hid hM
    have HO11 : Hid (N11 = M11.length ∧ OwnB w11 (w.heap.size + 1) (.slice A11 N11 c11) M11) := Lib.hid ⟨by rw [hM, List.length_append, be_len, ← HO10.out.1]; exact HR.out.1, by rw [hM]; exact HR.out.2.1⟩
    have hNl11 : N11 ≤ 40 := by have := HR.out.1; omega
    clear HR hM HP C HO10 HF10 HB10
    have C := blk_says HF11.out
    simp only [cellsSay, Nat.reduceAdd, and_true] at C
    go_upto_region 18 with (at_builtin; go_must (refine appAll _ rfl (.tmp 63) (.tmp 66) rfl (w.heap.size + 1) _ M11 rfl HO11.out.2 A c l rfl (HA.out.below HB11.out) (by have := HO11.out.1; omega) hz11 ?_); intro A12 c12 w12 hown12 hb12)
    have HB12 := Lib.hid (HB11.out.trans (Below.mono hb12 (by omega)))
    have hz12 : w.heap.size + 1 ≤ w12.heap.size := Nat.le_trans hz11 hb12.size
    obtain ⟨M12, hM⟩ : ∃ M : List UInt8, M = M11 ++ l := ⟨_, rfl⟩
    have HM12 := Lib.hid hM
    obtain ⟨N12, hN12⟩ : ∃ N, N = M11.length + l.length := ⟨_, rfl⟩
    rw [← hN12] at hown12 ⊢
    have HO12 : Hid (N12 = M12.length ∧ OwnB w12 (w.heap.size + 1) (.slice A12 N12 c12) M12) := Lib.hid ⟨by rw [hM, hN12]; simp, by rw [hM]; exact hown12⟩
    have hNl12 : N12 ≤ 5000 := by have := HO11.out.1; omega
    have HBs := Lib.hid (HO12.out.2.bs)
    have HS : Hid (∀ W : World, W = w12 → Calls Try.prog 34 #[.slice A12 N12 c12] W fun e w' => ∃ x : Nat, Hid (x = crcL M12) ∧ e = .returned (.int .u32 x) ∧ W = w') := Lib.hid (fun W hW => by
      subst hW
      have := refSum_any A12 c12 M12 W HBs.out (by have := HO12.out.1; omega)
      rw [← HO12.out.1] at this
      exact this)
    clear hM hN12 hown12 hb12 C HF11 HB11 HO11
    go_wp2_with fail
    refine (HS.out _ rfl).mono ?_
    rintro e w13 ⟨s, HSm, rfl, rfl⟩
    have hs32 : s < 4294967296 := by rw [HSm.out]; exact crcL_lt _
    have us : IntKind.u64.wrap (s : Int) = s := by rw [IntKind.wrap_u64]; omega
    have HP := Lib.hid (rput7_N s 4 N12 A12 c12 M12 (w.heap.size + 1) w12 HO12.out.1 HO12.out.2 (by omega) (by omega) (by omega) hz12)
    go_wp2_with fail
    refine HP.out.mono ?_
    rintro e w14 ⟨A14, c14, N14, rfl, HR⟩
    have HF : Hid (N14 = E.length ∧ OwnB w14 w.heap.size (.slice A14 N14 c14) E ∧ Below w.heap.size w w14) := Lib.hid (by
      have hEq : M12 ++ be 4 s = E := by
        rw [HSm.out, HE.out]
        have hM : M12 = [68, 89, x] ++ be 4 ep ++ be 4 se ++ be 4 fc ++ be 4 fb ++ be 4 fn ++ be 4 cn ++ [y] ++ be 8 sm ++ be 4 m ++ l := by
          rw [HM12.out, HM11.out, HM10.out, HM9.out, HM7.out, HM6.out, HM5.out, HM4.out, HM3.out, HM2.out, HM1.out]
        rw [hM]
      refine ⟨?_, ?_, HB12.out.trans (Below.mono HR.out.2.2 (by omega))⟩
      · rw [← hEq, List.length_append, be_len, ← HO12.out.1]; exact HR.out.1
      · rw [← hEq]; exact HR.out.2.1.mono (by omega))
    clear HR HP
    go_wp2_with fail
    go_ret2
    exact ⟨A14, c14, N14, rfl, HF⟩

end Go.Proofs.Ytpedobpbpomkaaa
