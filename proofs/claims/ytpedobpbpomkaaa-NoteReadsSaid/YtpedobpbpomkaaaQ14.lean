/- Joined: Fr7, Fr8, Nt2, Nt3, Nt4, Nt5a, Nt5b, Nt5c, Nt5d, Nt6a, Nt6b, Nt6c. -/
import Derived.Test.YtpedobpbpomkaaaQ13
import Derived.Deep.RegionHeld3
import Derived.Deep.DeepCutAuto
import Derived.Test.YtpedobpbpomkaaaQ6
import Derived.Test.YtpedobpbpomkaaaQ4
import Derived.Test.YtpedobpbpomkaaaQ1
set_option linter.unusedSimpArgs false
set_option linter.unusedVariables false
/- Layer 7: Encode of the program. -/
set_option linter.unusedSimpArgs false
set_option linter.unusedVariables false
namespace Go.Proofs.Ytpedobpbpomkaaa
open Go.RowKit
set_option maxRecDepth 100000

theorem lsB {w : World} {g p c : Nat} {B : Option Addr} {l : List UInt8} {T : TypeId} (h : Blk w p T #[.slice B l.length c]) (hp : p ≠ g) (hb : Bsf w g B l) : Ls w g (some ⟨p, 0, none⟩) [l] := fun i x hi => by
  cases i with
  | succ i => simp at hi
  | zero =>
    simp at hi
    subst hi
    exact ⟨_, _, rfl, hp, _, _, h.cell 0, hb⟩
theorem TabF.below {w w' : World} {g : Nat} (h : TabF w g) (t : Below w.heap.size w w') : TabF w' g := Blk.below h t (Blk.lt h)
theorem flat_take {V : List Nat} {k : Nat} {v : Nat} (h : V[k]? = some v) : (V.take (k + 1)).flatMap (be 4) = (V.take k).flatMap (be 4) ++ be 4 v := by
  obtain ⟨hk, he⟩ := List.getElem?_eq_some_iff.1 h
  rw [List.take_succ_eq_append_getElem hk, List.flatMap_append, he]
  simp
set_option maxHeartbeats 16000000 in
theorem fenc_yes (f : FrD) (A : Option Addr) (c : Nat) (w : World) (hA : Bs w A f.l) (ho : f.ok) (hm : mayF f = true) :
    Calls Try.prog 14 #[.agg (frC f A c)] w fun e w' => ∃ A' c' N, e = .returned (.tuple #[.slice A' N c', .int .u16 0]) ∧ Hid (N = (encF f).length ∧ OwnB w' w.heap.size (.slice A' N c') (encF f) ∧ Below w.heap.size w w') := by
  obtain ⟨hn0, hn1, hl⟩ := mayF_n hm
  have hM := fmay_any f A c (w.alloc (.cells (frC f A c) 30)) (hA.below (below_alloc w _)) ho (by omega)
  rw [hm] at hM
  have hbd := body_eq f ho.1
  obtain ⟨E, hE⟩ : ∃ E, E = encF f := ⟨_, rfl⟩
  rw [← hE]
  have hE2 : E = bodyF f ++ be 4 (crcL (bodyF f)) := hE
  rw [hbd] at hE2
  obtain ⟨o1, o2, o3, o4, o5, o6, o7, o8, -, -⟩ := ho
  clear hm hbd hE
  obtain ⟨kd, ep, se, fc, fb, fn, cn, cl, sm, l, n⟩ := f
  simp only [frC] at hM hA hn0 hn1 hl hE2 o1 o2 o3 o4 o5 o6 o7 o8 ⊢
  obtain ⟨m, rfl⟩ := Int.eq_ofNat_of_zero_le hn0
  simp only [Int.toNat_natCast] at hE2
  obtain ⟨V6, hV6⟩ : ∃ V : List Nat, V = [ep, se, fc, fb, fn, cn] := ⟨_, rfl⟩
  have hVb : ∀ v ∈ V6, v < 4294967296 := fun v hv => by
    rw [hV6] at hv
    simp only [List.mem_cons, List.not_mem_nil, or_false] at hv
    rcases hv with rfl | rfl | rfl | rfl | rfl | rfl <;> assumption
  have HVb := Lib.hid hVb
  have HV6 := Lib.hid hV6
  clear hVb hV6
  have HE := Lib.hid hE2
  have HM := Lib.hid hM
  have HA := Lib.hid hA
  clear hM hA hE2 hn0
  have u7 : IntKind.u64.wrap (m : Int) = m := by rw [IntKind.wrap_u64]; omega
  obtain ⟨x, hx⟩ : ∃ x : UInt8, x = UInt8.ofNat kd := ⟨_, rfl⟩
  rw [← hx] at HE
  obtain rfl : kd = x.toNat := by rw [hx]; simp; omega
  have hxl := x.toNat_lt
  have u0 : IntKind.u64.wrap ((x.toNat : Nat) : Int) = (x.toNat : Int) := by rw [IntKind.wrap_u64]; omega
  have hwm : IntKind.i64.wrap (44 + (l.length : Int)) = 44 + (l.length : Int) := by rw [IntKind.wrap_i64]; omega
  clear hx o1
  have HF0 := Lib.hid (Blk.new w 30 #[.int .u8 (x.toNat : Nat), .int .u32 (ep : Nat), .int .u32 (se : Nat), .int .u32 (fc : Nat), .int .u32 (fb : Nat), .int .u32 (fn : Nat), .int .u32 (cn : Nat), .bool cl, .int .u64 (sm : Nat), .slice A l.length c, .int .i64 (m : Nat)])
  have hz0 : w.heap.size + 1 ≤ (w.alloc (.cells #[.int .u8 (x.toNat : Nat), .int .u32 (ep : Nat), .int .u32 (se : Nat), .int .u32 (fc : Nat), .int .u32 (fb : Nat), .int .u32 (fn : Nat), .int .u32 (cn : Nat), .bool cl, .int .u64 (sm : Nat), .slice A l.length c, .int .i64 (m : Nat)] 30)).heap.size := by simp
  go_enter Try.func14, Try.ntmps14
  have C := blk_says HF0.out
  simp only [cellsSay, Nat.reduceAdd, and_true] at C
  go_wp2_with fail
  refine HM.out.mono ?_
  rintro e w1 ⟨rfl, b1⟩
  have HF1 := Lib.hid (Blk.below HF0.out b1 (by simp))
  have HB1 := Lib.hid ((below_alloc w _).trans (b1.mono (by simp)))
  have hz1 : w.heap.size + 1 ≤ w1.heap.size := Nat.le_trans hz0 b1.size
  clear C b1 HM HF0 hz0
  have C := blk_says HF1.out
  simp only [cellsSay, Nat.reduceAdd, and_true] at C
  go_upto_region 4 with (at_make; go_must (refine mkB0 _ rfl (.const (.int .i64 0)) (.tmp 16) rfl (w.heap.size + 1) (44 + l.length) _ rfl rfl (by omega) (by omega) hz1 ?_); intro w2 hown2 hb2 hs2)
  have HE2 : Hid (En w (w2.alloc (.cells #[.slice (some ⟨w1.heap.size, 0, none⟩) 0 (44 + l.length)] 26)) #[.int .u8 (x.toNat : Nat), .int .u32 (ep : Nat), .int .u32 (se : Nat), .int .u32 (fc : Nat), .int .u32 (fb : Nat), .int .u32 (fn : Nat), .int .u32 (cn : Nat), .bool cl, .int .u64 (sm : Nat), .slice A l.length c, .int .i64 (m : Nat)] 0 (some ⟨w1.heap.size, 0, none⟩) (44 + l.length) w2.heap.size []) := Lib.hid ⟨(HF1.out.below hb2 (by omega)).below (below_alloc w2 _) (by have := hb2.size; omega), Blk.new w2 _ _, hown2.alloc _, (by simp [Value.ownBlock]; omega), rfl, (HB1.out.trans (hb2.mono (by omega))).trans ((below_alloc w2 _).mono (by have := hb2.size; omega)), by omega⟩
  obtain ⟨q, hq⟩ : ∃ q, q = w2.heap.size := ⟨_, rfl⟩
  obtain ⟨w3, hw3⟩ : ∃ w3, w3 = w2.alloc (.cells #[.slice (some ⟨w1.heap.size, 0, none⟩) 0 (44 + l.length)] 26) := ⟨_, rfl⟩
  rw [← hw3, ← hq] at HE2
  rw [← hw3, ← hq]
  clear hw3 hq hown2 hb2 hs2 C HF1 HB1 hz1
  obtain ⟨A3, hA3⟩ : ∃ A3 : Option Addr, A3 = some ⟨w1.heap.size, 0, none⟩ := ⟨_, rfl⟩
  obtain ⟨c3, hc3⟩ : ∃ c3, c3 = 44 + l.length := ⟨_, rfl⟩
  rw [← hA3, ← hc3] at HE2
  clear hA3 hc3
  have C := And.intro HE2.out.cell (blk_says HE2.out.fr)
  simp only [cellsSay, Nat.reduceAdd, and_true] at C
  have HP := Lib.hid (HE2.out.put 17497 2 (by omega) (by omega) (by omega))
  go_wp2_with fail
  refine HP.out.mono ?_
  rintro e v3 ⟨rfl, A4, c4, N4, HR⟩
  obtain ⟨M4, hM⟩ : ∃ M : List UInt8, M = ([] : List UInt8) ++ be 2 17497 := ⟨_, rfl⟩
  have HM4 := Lib.hid hM
  have HE3 := Lib.hid (show En w v3 _ N4 A4 c4 q M4 by rw [hM]; exact HR.out.2.1)
  have hN4 := HR.out.1
  clear HR hM HP C HE2
  have C := And.intro HE3.out.cell (blk_says HE3.out.fr)
  simp only [cellsSay, Nat.reduceAdd, and_true] at C
  have HP := Lib.hid (HE3.out.put x.toNat 1 (by omega) (by omega) (by omega))
  go_wp2_with fail
  refine HP.out.mono ?_
  rintro e v4 ⟨rfl, A5, c5, N5, HR⟩
  obtain ⟨M5, hM⟩ : ∃ M : List UInt8, M = M4 ++ be 1 x.toNat := ⟨_, rfl⟩
  have HM5 := Lib.hid hM
  have HE4 := Lib.hid (show En w v4 _ N5 A5 c5 q M5 by rw [hM]; exact HR.out.2.1)
  have hN5 := HR.out.1
  clear HR hM HP C HE3
  have C := And.intro HE4.out.cell (blk_says HE4.out.fr)
  simp only [cellsSay, Nat.reduceAdd, and_true] at C
  go_wp2_with fail
  obtain ⟨v4b, hvb⟩ : ∃ W, W = v4.alloc (.cells #[.int .u32 (ep : Nat), .int .u32 (se : Nat), .int .u32 (fc : Nat), .int .u32 (fb : Nat), .int .u32 (fn : Nat), .int .u32 (cn : Nat)] 22) := ⟨_, rfl⟩
  have HVB : Hid (Blk v4b v4.heap.size 22 (V6.map (fun v : Nat => Value.int .u32 (v : Int))).toArray) := Lib.hid (by rw [hvb, HV6.out]; exact Blk.new _ _ _)
  have HE4b := Lib.hid (show En w v4b _ N5 A5 c5 q M5 by rw [hvb]; exact HE4.out.go (below_alloc _ _))
  have HVn : Hid ((Value.slice A5 N5 c5).ownBlock ≠ some v4.heap.size ∧ v4.heap.size ≠ q) := Lib.hid ⟨fun e => by have := (World.ownsRow.lt HE4.out.own _ e).2; omega, by have := HE4.out.bx.lt; omega⟩
  rw [← hvb]
  obtain ⟨vb, hvbe⟩ : ∃ vb, vb = v4.heap.size := ⟨_, rfl⟩
  rw [← hvbe] at HVB HVn ⊢
  clear hvb hvbe C HE4
  have hV6l : V6.length = 6 := by rw [HV6.out]; rfl
  go_loopw [43] (fun s43 wr => ∃ k : Nat, k ≤ 6 ∧ s43 = .int .i64 k ∧ Hid (∃ (A2 : Option Addr) (c2 N2 : Nat) (M2 : List UInt8), N2 = 3 + 4 * k ∧ M2 = M5 ++ (V6.take k).flatMap (be 4) ∧ En w wr #[.int .u8 (x.toNat : Nat), .int .u32 (ep : Nat), .int .u32 (se : Nat), .int .u32 (fc : Nat), .int .u32 (fb : Nat), .int .u32 (fn : Nat), .int .u32 (cn : Nat), .bool cl, .int .u64 (sm : Nat), .slice A l.length c, .int .i64 (m : Nat)] N2 A2 c2 q M2 ∧ Blk wr vb 22 (V6.map (fun v : Nat => Value.int .u32 (v : Int))).toArray ∧ (Value.slice A2 N2 c2).ownBlock ≠ some vb ∧ vb ≠ q))
    (fun s43 _ => 6 - (intOf s43).toNat)
  case atStart => exact ⟨0, Nat.zero_le _, rfl, Lib.hid ⟨_, _, _, _, by omega, by simp, HE4b.out, HVB.out, HVn.out.1, HVn.out.2⟩⟩
  case round =>
    obtain ⟨k, hk, rfl, HR⟩ := hrel
    by_cases hlt : k < 6
    · obtain ⟨A2, c2, N2, M2, h1, h2, h3, h4, h5, h6⟩ := HR.out
      have hvk := List.getElem?_eq_getElem (show k < V6.length by omega)
      obtain ⟨v, hv⟩ : ∃ v, v = V6[k]'(by omega) := ⟨_, rfl⟩
      rw [← hv] at hvk
      have hcv : wr.cell? ⟨vb, k, none⟩ = some (.int .u32 (v : Nat)) := by rw [h4.cell]; simp [hvk]
      have hvl := HVb.out v (List.mem_of_getElem? hvk)
      have uv : IntKind.u64.wrap (v : Int) = v := by rw [IntKind.wrap_u64]; omega
      have HM2 := Lib.hid (show M2 ++ be 4 v = M5 ++ (V6.take (k + 1)).flatMap (be 4) by rw [flat_take hvk, h2, List.append_assoc])
      have HP := Lib.hid (h3.put v 4 (by omega) (by omega) (by omega))
      have H1 := Lib.hid h1
      have H4 := Lib.hid h4
      have H5 := Lib.hid (And.intro h5 h6)
      have hk6 : (k : Int) < 6 := by omega
      clear h1 h2 h3 h4 h5 h6 HR hvk hv
      go_wp2_with fail
      refine HP.out.mono ?_
      rintro e w8 ⟨rfl, A3, c3, N3, HR⟩
      have HRel : Hid (∃ (A2 : Option Addr) (c2 N2 : Nat) (M2 : List UInt8), N2 = 3 + 4 * (k + 1) ∧ M2 = M5 ++ (V6.take (k + 1)).flatMap (be 4) ∧ En w w8 #[.int .u8 (x.toNat : Nat), .int .u32 (ep : Nat), .int .u32 (se : Nat), .int .u32 (fc : Nat), .int .u32 (fb : Nat), .int .u32 (fn : Nat), .int .u32 (cn : Nat), .bool cl, .int .u64 (sm : Nat), .slice A l.length c, .int .i64 (m : Nat)] N2 A2 c2 q M2 ∧ Blk w8 vb 22 (V6.map (fun v : Nat => Value.int .u32 (v : Int))).toArray ∧ (Value.slice A2 N2 c2).ownBlock ≠ some vb ∧ vb ≠ q) := Lib.hid (by
        obtain ⟨r1, r2, r3, r4⟩ := HR.out
        refine ⟨A3, c3, N3, M2 ++ be 4 v, by have := H1.out; omega, HM2.out, r2, H4.out.ft r3 H5.out.2 H5.out.1, fun e => ?_, H5.out.2⟩
        rcases r4 vb e with h9 | h9
        · exact H5.out.1 h9
        · have := H4.out.lt; omega)
      clear HR HP
      go_wp2_with fail
      go_roundw
      case measure => simp [intOf]; omega
      case rel => exact ⟨k + 1, by omega, by go_num, HRel⟩
    · obtain rfl : k = 6 := by omega
      obtain ⟨A6, c6, N6, M6, h1, h2, h3, -, -, -⟩ := HR.out
      rw [List.take_of_length_le (by omega)] at h2
      have HM6 := Lib.hid h2
      have HE5 := Lib.hid h3
      clear h2 h3 HR HVB
      have C := And.intro HE5.out.cell (blk_says HE5.out.fr)
      simp only [cellsSay, Nat.reduceAdd, and_true] at C
      obtain ⟨y, hy⟩ : ∃ y : UInt8, y = if cl then 1 else 0 := ⟨_, rfl⟩
      rw [← hy] at HE
      have hyl := y.toNat_lt
      have HY := Lib.hid hy
      clear hy
      go_upto_if 53 with fail
      go_cut [8] (fun s8 wx => s8 = .int .u64 (y.toNat : Nat) ∧ wr = wx)
      case first =>
        cases cl
        · have hy := HY.out
          go_wp2_with fail
          go_meet
          exact ⟨by rw [hy]; rfl, rfl⟩
        · have hy := HY.out
          go_wp2_with fail
          go_meet
          exact ⟨by rw [hy]; rfl, rfl⟩
      case rest =>
        obtain ⟨rfl, rfl⟩ := hcut
        have hb1 : be 1 y.toNat = [y] := by rw [be_one hyl]; simp
        have Hb1 := Lib.hid hb1
        clear hb1
        have HP := Lib.hid (HE5.out.put y.toNat 1 (by omega) (by omega) (by omega))
        go_wp2_with fail
        refine HP.out.mono ?_
        rintro e v6 ⟨rfl, A7, c7, N7, HR⟩
        obtain ⟨M7, hM⟩ : ∃ M : List UInt8, M = M6 ++ be 1 y.toNat := ⟨_, rfl⟩
        have HM7 := Lib.hid hM
        have HE6 := Lib.hid (show En w v6 _ N7 A7 c7 q M7 by rw [hM]; exact HR.out.2.1)
        have hN7 := HR.out.1
        clear HR hM HP C HE5
        have C := And.intro HE6.out.cell (blk_says HE6.out.fr)
        simp only [cellsSay, Nat.reduceAdd, and_true] at C
        have HP := Lib.hid (HE6.out.put sm 8 (by omega) (by omega) (by omega))
        go_wp2_with fail
        refine HP.out.mono ?_
        rintro e v7 ⟨rfl, A8, c8, N8, HR⟩
        obtain ⟨M8, hM⟩ : ∃ M : List UInt8, M = M7 ++ be 8 sm := ⟨_, rfl⟩
        have HM8 := Lib.hid hM
        have HE7 := Lib.hid (show En w v7 _ N8 A8 c8 q M8 by rw [hM]; exact HR.out.2.1)
        have hN8 := HR.out.1
        clear HR hM HP C HE6
        have C := And.intro HE7.out.cell (blk_says HE7.out.fr)
        simp only [cellsSay, Nat.reduceAdd, and_true] at C
        have HP := Lib.hid (HE7.out.put m 4 (by omega) (by omega) (by omega))
        go_wp2_with fail
        refine HP.out.mono ?_
        rintro e v8 ⟨rfl, A9, c9, N9, HR⟩
        obtain ⟨M9, hM⟩ : ∃ M : List UInt8, M = M8 ++ be 4 m := ⟨_, rfl⟩
        have HM9 := Lib.hid hM
        have HE8 := Lib.hid (show En w v8 _ N9 A9 c9 q M9 by rw [hM]; exact HR.out.2.1)
        have hN9 := HR.out.1
        clear HR hM HP C HE7
        have C := And.intro HE8.out.cell (blk_says HE8.out.fr)
        simp only [cellsSay, Nat.reduceAdd, and_true] at C
        obtain rfl : N9 = 40 := by omega
        have hML : M9.length = 40 := HE8.out.len.symm
        have hMl : M9.length ≤ 100 := by omega
        clear hML
        have C2 := fun (W : World) (g : v8.grownBy W (Value.slice A9 40 c9).ownBlock) => Blk.kept HE8.out.bx g HE8.out.ne
        go_upto_region 19 with (at_builtin; go_must (refine appAllL _ rfl (.tmp 67) (.tmp 70) rfl (w.heap.size + 1) _ M9 rfl HE8.out.own A c l rfl (HA.out.below HE8.out.top) (by omega) HE8.out.siz ?_); intro A12 c12 w12 hown12 hg12 hl12; have hbx := C2 w12 hg12; have fbx := hbx.frozen 0; have cbx := hbx.cell 0)
        obtain ⟨N12, hN12⟩ : ∃ N, N = M9.length + l.length := ⟨_, rfl⟩
        have HE12 := Lib.hid (HE8.out.store (N2 := M9.length + l.length) hown12 hg12 hl12 (by simp))
        rw [← hN12] at HE12 ⊢
        obtain ⟨M12, hM⟩ : ∃ M : List UInt8, M = M9 ++ l := ⟨_, rfl⟩
        have HM12 := Lib.hid hM
        rw [← hM] at HE12
        obtain ⟨w13, hw13⟩ : ∃ W, W = w12.setCell ⟨q, 0, none⟩ (.slice A12 N12 c12) := ⟨_, rfl⟩
        rw [← hw13] at HE12 ⊢
        have hN12l : N12 ≤ 5000 := by omega
        clear hM hN12 hown12 hg12 hl12 hbx fbx cbx C C2 HE8 hw13
        obtain rfl : N12 = M12.length := HE12.out.len
        have HBd := Lib.hid (show Below w13.heap.size w13 w13.drew from (Below.refl _ w13).grown (grown_drew _ none) (Nat.le_refl _) (fun k e => by cases e))
        have HBa := Lib.hid (fun (o : Obj) => show Below w13.heap.size w13 (w13.alloc o).drew from (below_alloc w13 o).grown (grown_drew _ none) (by simp) (fun k e => by cases e))
        have HBb := Lib.hid (show Bs w13 A12 M12 from HE12.out.own.bs)
        have d13 := HE12.out.cell.1
        have hq13 : q < w13.heap.size := HE12.out.bx.lt
        go_wp2_with fail
        go_region_with (first
          | (go_at_call 31; refine (crcNew_any _).mono ?_; rintro e w14 ⟨rfl, hT, b14⟩; (first | (have HT := Lib.hid (show TabF w14 w13.heap.size from hT)) | (have HT := Lib.hid (show TabF w14 (w13.heap.size + 1) by simpa using hT))); have HBn := Lib.hid b14; have HB14 : Hid (Below w13.heap.size w13 w14) := Lib.hid (by first | exact HBd.out.trans b14 | exact (HBa.out _).trans (b14.mono (HBa.out _).size)); have d14 := (HE12.out.go HB14.out).cell.1; clear hT b14)
          | (go_at_call 32; refine (crcSum_any _ _ 1 [M12] _ (.inl (by first | exact HT.out.below (below_alloc _ _) | exact HT.out)) (by first | exact lsB (Blk.new _ _ _) (by have := Blk.lt HT.out; simp at this ⊢; omega) ((HBb.out.past HB14.out (Nat.le_refl _)).below (below_alloc _ _)) | exact lsB (T := 26) (p := w13.heap.size) (Blk.below (by exact Blk.new w13 26 #[.slice A12 M12.length c12]) HBn.out (by simp)) (by simp) (HBb.out.past HB14.out (by simp))) (by simp) (by simp; omega)).mono ?_; rintro e w15 ⟨s, HS, rfl, hTM, hTch⟩; have HB15 : Hid (Below w13.heap.size w13 w15) := Lib.hid (by first | exact Tch.below (HB14.out.trans ((below_alloc _ _).mono HB14.out.size)) hTch (by simp; have := HB14.out.size; omega) (by simp) | exact Tch.below HB14.out hTch HB14.out.size (by simp)); have hs32 : s < 4294967296 := (by rw [HS.out]; exact crcL_lt _); have us : IntKind.u64.wrap (s : Int) = s := (by rw [IntKind.wrap_u64]; omega); have HP := Lib.hid ((HE12.out.go HB15.out).put s 4 (by omega) (by omega) (by omega)); clear hTM hTch)
          | (go_at_call 30; refine HP.out.mono ?_; rintro e w16 ⟨rfl, A16, c16, N16, HR⟩; have e16 := HR.out.2.1.cell.1))
        all_goals
          have HF : Hid (N16 = E.length ∧ OwnB w16 w.heap.size (.slice A16 N16 c16) E ∧ Below w.heap.size w w16) := Lib.hid (by
            have hEq : M12 ++ be 4 s = E := by
              rw [HS.out, HE.out, show ([M12] : List (List UInt8)).flatten = M12 by simp]
              have hM : M12 = [68, 89, x] ++ be 4 ep ++ be 4 se ++ be 4 fc ++ be 4 fb ++ be 4 fn ++ be 4 cn ++ [y] ++ be 8 sm ++ be 4 m ++ l := by
                rw [HM12.out, HM9.out, HM8.out, HM7.out, HM6.out, HM5.out, HM4.out]
                have e1 : be 2 17497 = [68, 89] := by decide
                have e2 : be 1 x.toNat = [x] := by rw [be_one hxl]; simp
                rw [e1, e2, Hb1.out, HV6.out]
                simp
              rw [hM]
            refine ⟨?_, ?_, HR.out.2.1.top⟩
            · rw [← hEq, List.length_append, be_len]; exact HR.out.1
            · rw [← hEq]; exact HR.out.2.1.own.mono (by omega))
          clear HP
          go_wp2_with fail
          go_ret2
          exact ⟨A16, c16, N16, rfl, HF⟩

end Go.Proofs.Ytpedobpbpomkaaa

/- Layer 7: Decode of the document. -/
set_option linter.unusedSimpArgs false
set_option linter.unusedVariables false
namespace Go.Proofs.Ytpedobpbpomkaaa
open Go.RowKit
set_option maxRecDepth 100000

theorem refSum_eq (A : Option Addr) (c : Nat) (l : List UInt8) (w : World) (hA : Bs w A l) (hl : l.length ≤ 1000000) :
    Calls Try.prog 34 #[.slice A l.length c] w fun e w' => e = .returned (.int .u32 (crcL l : Nat)) ∧ w' = w := by
  refine (refSum_any A c l w hA hl).mono ?_
  rintro e w' ⟨x, hx, rfl, rfl⟩
  exact ⟨by rw [hx.out], rfl⟩
theorem Bs.cut {w : World} {p o : Nat} {l : List UInt8} (h : Bs w (some ⟨p, o, none⟩) l) (i n : Nat) : Bs w (some ⟨p, o + i, none⟩) ((l.drop i).take n) := fun j b hj => by
  rw [List.getElem?_take] at hj
  split at hj
  · rw [List.getElem?_drop] at hj
    obtain ⟨p', o', hA, hc⟩ := h _ b hj
    injection hA with e
    injection e with e1 e2 _
    subst e1; subst e2
    refine ⟨p, o + i, rfl, ?_⟩
    rw [Nat.add_assoc]; exact hc
  · cases hj
theorem bs_takeN {w : World} {A : Option Addr} {l : List UInt8} (h : Bs w A l) (n : Nat) : Bs w A (l.take n) := fun j b hj => by
  rw [List.getElem?_take] at hj
  split at hj
  · exact h j b hj
  · cases hj
theorem Bs.cutZ {w : World} {A : Option Addr} {l : List UInt8} (h : Bs w A l) (hl : 0 < l.length) : ∃ p o, A = some ⟨p, o, none⟩ := by
  obtain ⟨p, o, hA, _⟩ := h 0 _ (List.getElem?_eq_getElem hl)
  exact ⟨p, o, hA⟩
theorem num_part1 {l : List UInt8} {i : Nat} {x : UInt8} (h : l[i]? = some x) : num (part l i 1) = x.toNat := by
  obtain ⟨hi, he⟩ := List.getElem?_eq_some_iff.1 h
  unfold part
  rw [List.drop_eq_getElem_cons hi, he]
  simp [num]

/-- nothing -/
theorem frC_zero : frC zeroF none 0 = #[.int .u8 0, .int .u32 0, .int .u32 0, .int .u32 0, .int .u32 0, .int .u32 0, .int .u32 0, .bool false, .int .u64 0, .slice none 0 0, .int .i64 0] := rfl
theorem rfdec_short (A : Option Addr) (c : Nat) (l : List UInt8) (w : World) (hL : l.length ≤ 100000) (h : l.length < 44 ∨ 4096 < l.length) :
    Calls Try.prog 20 #[.slice A l.length c] w fun e w' => e = .returned (.tuple #[.agg (frC zeroF none 0), .int .i64 70]) ∧ Below w.heap.size w w' := by
  have HR := Lib.hid frC_zero
  have HF := Lib.hid (Blk.new w 30 #[.int .u8 0, .int .u32 0, .int .u32 0, .int .u32 0, .int .u32 0, .int .u32 0, .int .u32 0, .bool false, .int .u64 0, .slice none 0 0, .int .i64 0])
  have C := blk_says HF.out
  simp only [cellsSay, Nat.reduceAdd, and_true] at C
  by_cases h1 : l.length < 44
  · have hd : decide ((l.length : Int) < 44) = true := decide_eq_true (by omega)
    clear h h1
    go_enter Try.func20, Try.ntmps20
    go_wp2_with fail
    refine bodyPost_ret (v := .tuple #[.agg #[.int .u8 0, .int .u32 0, .int .u32 0, .int .u32 0, .int .u32 0, .int .u32 0, .int .u32 0, .bool false, .int .u64 0, .slice none 0 0, .int .i64 0], .int .i64 70]) (by simp [results, Try.results20, go_sem, C]) rfl ⟨by rw [HR.out], ?_⟩
    exact below_alloc _ _
  · have hd : decide ((l.length : Int) < 44) = false := decide_eq_false (by omega)
    have hd2 : decide ((4096 : Int) < l.length) = true := decide_eq_true (by omega)
    clear h h1
    go_enter Try.func20, Try.ntmps20
    go_wp2_with fail
    refine bodyPost_ret (v := .tuple #[.agg #[.int .u8 0, .int .u32 0, .int .u32 0, .int .u32 0, .int .u32 0, .int .u32 0, .int .u32 0, .bool false, .int .u64 0, .slice none 0 0, .int .i64 0], .int .i64 70]) (by simp [results, Try.results20, go_sem, C]) rfl ⟨by rw [HR.out], ?_⟩
    exact below_alloc _ _

end Go.Proofs.Ytpedobpbpomkaaa

/- Layer 11: notes alike; may a note be, by the document. -/
set_option linter.unusedSimpArgs false
set_option linter.unusedVariables false
namespace Go.Proofs.Ytpedobpbpomkaaa
open Go.RowKit
set_option maxRecDepth 100000

/-- are notes alike? -/
def sameN (f g : NoD) : Bool := decide (f.kd = g.kd ∧ f.ep = g.ep ∧ f.se = g.se ∧ (f.st, f.sv) = (g.st, g.sv) ∧ (f.pc, f.pb, f.pn) = (g.pc, g.pb, g.pn) ∧ f.cn = g.cn ∧ f.cl = g.cl) && (decide (f.n = g.n) && decide (f.l = g.l))
theorem sameN_iff (f g : NoD) : sameN f g = true ↔ f = g := by
  obtain ⟨kd, ep, se, st, sv, pc, pb, pn, cn, cl, l, n⟩ := f
  obtain ⟨kd2, ep2, se2, st2, sv2, pc2, pb2, pn2, cn2, cl2, l2, n2⟩ := g
  simp only [sameN, Bool.and_eq_true, decide_eq_true_iff, NoD.mk.injEq, Prod.mk.injEq]
  constructor
  · rintro ⟨⟨rfl, rfl, rfl, ⟨rfl, rfl⟩, ⟨rfl, rfl, rfl⟩, rfl, rfl⟩, rfl, rfl⟩; simp
  · rintro ⟨rfl, rfl, rfl, rfl, rfl, rfl, rfl, rfl, rfl, rfl, rfl, rfl⟩; simp

set_option maxHeartbeats 4000000 in
theorem rnsame_any (f g : NoD) (A B : Option Addr) (c d : Nat) (w : World) (hA : Bs w A f.l) (hB : Bs w B g.l) :
    Calls Try.prog 29 #[.agg (noC f A c), .agg (noC g B d)] w fun e w' => e = .returned (.bool (sameN f g)) ∧ Below w.heap.size w w' := by
  obtain ⟨r, hr⟩ : ∃ r, r = sameN f g := ⟨_, rfl⟩
  rw [← hr]
  have hS := fun (W : World) (hb : Below w.heap.size w W) => refSame_any A B c d f.l g.l f.n g.n W (hA.below hb) (hB.below hb)
  obtain ⟨sb, hsb⟩ : ∃ sb, sb = (decide (f.n = g.n) && decide (f.l = g.l)) := ⟨_, rfl⟩
  rw [← hsb] at hS
  unfold sameN at hr
  rw [← hsb] at hr
  clear hA hB hsb
  obtain ⟨kd, ep, se, st, sv, pc, pb, pn, cn, cl, l, n⟩ := f
  obtain ⟨kd2, ep2, se2, st2, sv2, pc2, pb2, pn2, cn2, cl2, l2, n2⟩ := g
  simp only [noC] at hr hS ⊢
  have HS := Lib.hid hS
  have HK0 := (Qs.zero w).box #[.int .u8 (kd : Nat), .int .u32 (ep : Nat), .int .u32 (se : Nat), .int .i64 st, .int .u64 (sv : Nat), .int .u32 (pc : Nat), .int .u32 (pb : Nat), .int .u32 (pn : Nat), .int .u32 (cn : Nat), .bool cl, .slice A l.length c, .int .i64 n] 50
  have s1 : ∀ o, (w.alloc o).heap.size = w.heap.size + 1 := fun o => by simp
  have HK2 := HK0.box #[.int .u8 (kd2 : Nat), .int .u32 (ep2 : Nat), .int .u32 (se2 : Nat), .int .i64 st2, .int .u64 (sv2 : Nat), .int .u32 (pc2 : Nat), .int .u32 (pb2 : Nat), .int .u32 (pn2 : Nat), .int .u32 (cn2 : Nat), .bool cl2, .slice B l2.length d, .int .i64 n2] 50
  simp only [s1] at HK2
  have HK := Lib.hid HK2
  clear HK0 HK2 s1
  have C := HK.out.says
  simp only [sayAll, cellsSay, qB, qW, Nat.reduceAdd, and_true, true_and] at C
  have hP := fun w => eqPl_run pc pb pn pc2 pb2 pn2 w
  have hQ := fun w => eqSm_run st sv st2 sv2 w
  clear hS
  by_cases c_kd : kd = kd2
  rotate_left
  · have h_kd : (((kd : Nat) : Int) == ((kd2 : Nat) : Int)) = false := beq_eq_false_iff_ne.2 (by omega)
    have Hr := Lib.hid (show r = false by rw [hr, decide_eq_false (fun h => c_kd (by simpa using (h.1))), Bool.false_and])
    clear hr c_kd 
    go_enter Try.func29, Try.ntmps29
    go_wp2_with fail
    go_ret
    exact ⟨by rw [Hr.out]; rfl, HK.out.top 2⟩
  have h_kd : (((kd : Nat) : Int) == ((kd2 : Nat) : Int)) = true := beq_iff_eq.2 (by omega)
  by_cases c_ep : ep = ep2
  rotate_left
  · have h_ep : (((ep : Nat) : Int) == ((ep2 : Nat) : Int)) = false := beq_eq_false_iff_ne.2 (by omega)
    have Hr := Lib.hid (show r = false by rw [hr, decide_eq_false (fun h => c_ep (by simpa using (h.2.1))), Bool.false_and])
    clear hr c_ep c_kd
    go_enter Try.func29, Try.ntmps29
    go_wp2_with fail
    go_ret
    exact ⟨by rw [Hr.out]; rfl, HK.out.top 2⟩
  have h_ep : (((ep : Nat) : Int) == ((ep2 : Nat) : Int)) = true := beq_iff_eq.2 (by omega)
  by_cases c_se : se = se2
  rotate_left
  · have h_se : (((se : Nat) : Int) == ((se2 : Nat) : Int)) = false := beq_eq_false_iff_ne.2 (by omega)
    have Hr := Lib.hid (show r = false by rw [hr, decide_eq_false (fun h => c_se (by simpa using (h.2.2.1))), Bool.false_and])
    clear hr c_se c_kd c_ep
    go_enter Try.func29, Try.ntmps29
    go_wp2_with fail
    go_ret
    exact ⟨by rw [Hr.out]; rfl, HK.out.top 2⟩
  have h_se : (((se : Nat) : Int) == ((se2 : Nat) : Int)) = true := beq_iff_eq.2 (by omega)
  by_cases c_sm : (st, sv) = (st2, sv2)
  rotate_left
  · rw [decide_eq_false c_sm] at hQ
    have Hr := Lib.hid (show r = false by rw [hr, decide_eq_false (fun h => c_sm (by simpa using (h.2.2.2.1))), Bool.false_and])
    clear hr c_sm c_kd c_ep c_se
    go_enter Try.func29, Try.ntmps29
    go_wp2_with fail
    go_ret
    exact ⟨by rw [Hr.out]; rfl, HK.out.top 2⟩
  rw [decide_eq_true c_sm] at hQ
  by_cases c_pl : (pc, pb, pn) = (pc2, pb2, pn2)
  rotate_left
  · rw [decide_eq_false c_pl] at hP
    have Hr := Lib.hid (show r = false by rw [hr, decide_eq_false (fun h => c_pl (by simpa using (h.2.2.2.2.1))), Bool.false_and])
    clear hr c_pl c_kd c_ep c_se c_sm
    go_enter Try.func29, Try.ntmps29
    go_wp2_with fail
    go_ret
    exact ⟨by rw [Hr.out]; rfl, HK.out.top 2⟩
  rw [decide_eq_true c_pl] at hP
  by_cases c_cn : cn = cn2
  rotate_left
  · have h_cn : (((cn : Nat) : Int) == ((cn2 : Nat) : Int)) = false := beq_eq_false_iff_ne.2 (by omega)
    have Hr := Lib.hid (show r = false by rw [hr, decide_eq_false (fun h => c_cn (by simpa using (h.2.2.2.2.2.1))), Bool.false_and])
    clear hr c_cn c_kd c_ep c_se c_sm c_pl
    go_enter Try.func29, Try.ntmps29
    go_wp2_with fail
    go_ret
    exact ⟨by rw [Hr.out]; rfl, HK.out.top 2⟩
  have h_cn : (((cn : Nat) : Int) == ((cn2 : Nat) : Int)) = true := beq_iff_eq.2 (by omega)
  by_cases c_cl : cl = cl2
  rotate_left
  · have h_cl : (cl == cl2) = false := beq_eq_false_iff_ne.2 c_cl
    have Hr := Lib.hid (show r = false by rw [hr, decide_eq_false (fun h => c_cl (by simpa using (h.2.2.2.2.2.2))), Bool.false_and])
    clear hr c_cl c_kd c_ep c_se c_sm c_pl c_cn
    go_enter Try.func29, Try.ntmps29
    go_wp2_with fail
    go_ret
    exact ⟨by rw [Hr.out]; rfl, HK.out.top 2⟩
  have h_cl : (cl == cl2) = true := beq_iff_eq.2 c_cl
  have Hr := Lib.hid (show r = sb by rw [hr, decide_eq_true ⟨c_kd, c_ep, c_se, c_sm, c_pl, c_cn, c_cl⟩, Bool.true_and])
  clear hr c_kd c_ep c_se c_sm c_pl c_cn c_cl
  go_enter Try.func29, Try.ntmps29
  go_wp2_with fail
  refine (HS.out _ (HK.out.top 2)).mono ?_
  rintro e w1 ⟨rfl, b1⟩
  have HK1 := Lib.hid (HK.out.go b1)
  clear b1
  go_wp2_with fail
  go_ret
  exact ⟨by rw [Hr.out]; rfl, HK1.out.top 2⟩

theorem may1_same (d : NoD) (h : d.kd = 1) : sameN d ⟨1, d.ep, 0, 0, 0, 0, 0, 0, 0, false, [], 0⟩ = mayN d := by
  obtain ⟨kd, ep, se, st, sv, pc, pb, pn, cn, cl, l, n⟩ := d
  simp only at h
  subst h
  rw [Bool.eq_iff_iff, sameN_iff]
  simp [mayN, emptyN, and_assoc]
  grind
theorem may2_same (d : NoD) (h : d.kd = 2) : sameN d ⟨2, 0, d.se, d.st, d.sv, 0, 0, 0, 0, false, [], 0⟩ = mayN d := by
  obtain ⟨kd, ep, se, st, sv, pc, pb, pn, cn, cl, l, n⟩ := d
  simp only at h
  subst h
  rw [Bool.eq_iff_iff, sameN_iff]
  simp [mayN, emptyN, and_assoc]
  grind
theorem may3_same (d : NoD) (h : d.kd = 3) : sameN d ⟨3, 0, d.se, 0, 0, d.pc, d.pb, d.pn, 0, false, [], 0⟩ = mayN d := by
  obtain ⟨kd, ep, se, st, sv, pc, pb, pn, cn, cl, l, n⟩ := d
  simp only at h
  subst h
  rw [Bool.eq_iff_iff, sameN_iff]
  simp [mayN, emptyN, and_assoc]
  grind

set_option maxHeartbeats 4000000 in
theorem rnmay_any (d : NoD) (A : Option Addr) (c : Nat) (w : World) (hA : Bs w A d.l) (ho : d.ok) (hL : d.l.length ≤ 100000) : Calls Try.prog 26 #[.agg (noC d A c)] w fun e w' => e = .returned (.bool (mayN d)) ∧ Below w.heap.size w w' := by
  have hno := And.intro ho.2.2.2.2.2.2.2.2.2.1 ho.2.2.2.2.2.2.2.2.2.2
  have hS := fun (W : World) (hb : Below w.heap.size w W) => refSound_any A c d.l d.n W (hA.below hb) hno (by omega)
  have hE := fun (W : World) (hb : Below w.heap.size w W) (g : NoD) (hg : g.l = []) => rnsame_any d g A none c 0 W (hA.below hb) (by rw [hg]; exact Bs.nil _ _)
  obtain ⟨sb, hsb⟩ : ∃ sb, sb = soundB d.l d.n := ⟨_, rfl⟩
  obtain ⟨r, hr⟩ : ∃ r, r = mayN d := ⟨_, rfl⟩
  rw [← hr]
  rw [← hsb] at hS
  have q1 := may1_same d
  have q2 := may2_same d
  have q3 := may3_same d
  rw [← hr] at q1 q2 q3
  unfold mayN bringN at hr
  rw [← hsb] at hr
  clear hA ho hno hsb
  obtain ⟨kd, ep, se, st, sv, pc, pb, pn, cn, cl, l, n⟩ := d
  simp only at hr q1 q2 q3 hL
  have hE1 := fun (W : World) (hb : Below w.heap.size w W) => hE W hb ⟨1, ep, 0, 0, 0, 0, 0, 0, 0, false, [], 0⟩ rfl
  have hE2 := fun (W : World) (hb : Below w.heap.size w W) => hE W hb ⟨2, 0, se, st, sv, 0, 0, 0, 0, false, [], 0⟩ rfl
  have hE3 := fun (W : World) (hb : Below w.heap.size w W) => hE W hb ⟨3, 0, se, 0, 0, pc, pb, pn, 0, false, [], 0⟩ rfl
  clear hE
  simp only [noC, List.length_nil] at hS hE1 hE2 hE3 ⊢
  have HS := Lib.hid hS
  have HK := Lib.hid ((Qs.zero w).box #[.int .u8 (kd : Nat), .int .u32 (ep : Nat), .int .u32 (se : Nat), .int .i64 st, .int .u64 (sv : Nat), .int .u32 (pc : Nat), .int .u32 (pb : Nat), .int .u32 (pn : Nat), .int .u32 (cn : Nat), .bool cl, .slice A l.length c, .int .i64 n] 50)
  have hQ := fun w => eqSm0_run st sv w
  clear hS
  have C := HK.out.says
  simp only [sayAll, cellsSay, qB, qW, Nat.reduceAdd, and_true, true_and] at C
  by_cases k1 : kd = 1
  · have e1 := q1 k1
    subst k1
    rw [e1] at hE1
    have HE := Lib.hid hE1
    clear hE1 hE2 hE3 q1 q2 q3 hr e1 
    go_enter Try.func26, Try.ntmps26
    go_wp2_with fail
    refine (HE.out _ (HK.out.top 1)).mono ?_
    rintro e w1 ⟨rfl, b1⟩
    have HK1 := Lib.hid (HK.out.go b1)
    clear b1
    go_wp2_with fail
    go_ret
    exact ⟨rfl, HK1.out.top 1⟩
  by_cases k2 : kd = 2
  · have e2 := q2 k2
    subst k2
    rw [e2] at hE2
    have HE := Lib.hid hE2
    clear hE1 hE2 hE3 q1 q2 q3 hr e2 k1
    go_enter Try.func26, Try.ntmps26
    go_wp2_with fail
    refine (HE.out _ (HK.out.top 1)).mono ?_
    rintro e w1 ⟨rfl, b1⟩
    have HK1 := Lib.hid (HK.out.go b1)
    clear b1
    go_wp2_with fail
    go_ret
    exact ⟨rfl, HK1.out.top 1⟩
  by_cases k3 : kd = 3
  · have e3 := q3 k3
    subst k3
    rw [e3] at hE3
    have HE := Lib.hid hE3
    clear hE1 hE2 hE3 q1 q2 q3 hr e3 k1 k2
    go_enter Try.func26, Try.ntmps26
    go_wp2_with fail
    refine (HE.out _ (HK.out.top 1)).mono ?_
    rintro e w1 ⟨rfl, b1⟩
    have HK1 := Lib.hid (HK.out.go b1)
    clear b1
    go_wp2_with fail
    go_ret
    exact ⟨rfl, HK1.out.top 1⟩
  clear hE1 hE2 hE3 q1 q2 q3
  by_cases k4 : kd = 4
  · subst k4
    rw [if_neg k1, if_neg k2, if_neg k3, if_pos rfl] at hr
    clear k1 k2 k3
    by_cases c0 : sb = true
    rotate_left
    · have hs0 : sb = false := by simpa using c0
      subst hs0
      have Hr := Lib.hid (show r = false by rw [hr]; simp)
      clear hr 
      go_enter Try.func26, Try.ntmps26
      go_wp2_with fail
      refine (HS.out _ (HK.out.top 1)).mono ?_
      rintro e w2 ⟨rfl, b2⟩
      have HK2 := Lib.hid (HK.out.go b2)
      clear C b2 HS
      have C := HK2.out.says
      simp only [sayAll, cellsSay, qB, qW, Nat.reduceAdd, and_true, true_and] at C
      go_wp2_with fail
      go_ret
      exact ⟨by rw [Hr.out]; rfl, HK2.out.top 1⟩
    have hs0 : sb = true := by exact c0
    subst hs0
    by_cases c1 : 0 < n
    rotate_left
    · have h_n : decide (1 ≤ n) = false := decide_eq_false (by omega)
      have Hr := Lib.hid (show r = false by rw [hr]; rw [decide_eq_false c1]; simp)
      clear hr c1
      go_enter Try.func26, Try.ntmps26
      go_wp2_with fail
      refine (HS.out _ (HK.out.top 1)).mono ?_
      rintro e w2 ⟨rfl, b2⟩
      have HK2 := Lib.hid (HK.out.go b2)
      clear C b2 HS
      have C := HK2.out.says
      simp only [sayAll, cellsSay, qB, qW, Nat.reduceAdd, and_true, true_and] at C
      go_wp2_with fail
      go_ret
      exact ⟨by rw [Hr.out]; rfl, HK2.out.top 1⟩
    have h_n : decide (1 ≤ n) = true := decide_eq_true (by omega)
    by_cases c2 : l.length ≤ 500
    rotate_left
    · have h_l : decide ((l.length : Int) ≤ 500) = false := decide_eq_false (by omega)
      have h_l2 : decide (l.length ≤ 500) = false := decide_eq_false (by omega)
      have Hr := Lib.hid (show r = false by rw [hr]; rw [decide_eq_false c2]; simp)
      clear hr c1 c2
      go_enter Try.func26, Try.ntmps26
      go_wp2_with fail
      refine (HS.out _ (HK.out.top 1)).mono ?_
      rintro e w2 ⟨rfl, b2⟩
      have HK2 := Lib.hid (HK.out.go b2)
      clear C b2 HS
      have C := HK2.out.says
      simp only [sayAll, cellsSay, qB, qW, Nat.reduceAdd, and_true, true_and] at C
      go_wp2_with fail
      go_ret
      exact ⟨by rw [Hr.out]; rfl, HK2.out.top 1⟩
    have h_l : decide ((l.length : Int) ≤ 500) = true := decide_eq_true (by omega)
    have h_l2 : decide (l.length ≤ 500) = true := decide_eq_true (by omega)
    by_cases c3 : pn < cn
    rotate_left
    · have h_f : decide (pn < cn) = false := decide_eq_false (by omega)
      have h_f2 : decide ((pn : Int) < (cn : Int)) = false := decide_eq_false (by omega)
      have Hr := Lib.hid (show r = false by rw [hr]; rw [decide_eq_false c3]; simp)
      clear hr c1 c2 c3
      go_enter Try.func26, Try.ntmps26
      go_wp2_with fail
      refine (HS.out _ (HK.out.top 1)).mono ?_
      rintro e w2 ⟨rfl, b2⟩
      have HK2 := Lib.hid (HK.out.go b2)
      clear C b2 HS
      have C := HK2.out.says
      simp only [sayAll, cellsSay, qB, qW, Nat.reduceAdd, and_true, true_and] at C
      go_wp2_with fail
      go_ret
      exact ⟨by rw [Hr.out]; rfl, HK2.out.top 1⟩
    have h_f : decide (pn < cn) = true := decide_eq_true (by omega)
    have h_f2 : decide ((pn : Int) < (cn : Int)) = true := decide_eq_true (by omega)
    by_cases c4 : ep = 0
    rotate_left
    · have h_ep : (((ep : Nat) : Int) == 0) = false := beq_eq_false_iff_ne.2 (by omega)
      have Hr := Lib.hid (show r = false by rw [hr]; rw [decide_eq_false c4]; simp)
      clear hr c1 c2 c3 c4
      go_enter Try.func26, Try.ntmps26
      go_wp2_with fail
      refine (HS.out _ (HK.out.top 1)).mono ?_
      rintro e w2 ⟨rfl, b2⟩
      have HK2 := Lib.hid (HK.out.go b2)
      clear C b2 HS
      have C := HK2.out.says
      simp only [sayAll, cellsSay, qB, qW, Nat.reduceAdd, and_true, true_and] at C
      go_wp2_with fail
      go_ret
      exact ⟨by rw [Hr.out]; rfl, HK2.out.top 1⟩
    have h_ep : (((ep : Nat) : Int) == 0) = true := beq_iff_eq.2 (by omega)
    by_cases c5 : st = 0 ∧ sv = 0
    rotate_left
    · rw [decide_eq_false c5] at hQ
      have Hr := Lib.hid (show r = false by rw [hr]; rw [decide_eq_false c5]; simp)
      clear hr c1 c2 c3 c4 c5
      go_enter Try.func26, Try.ntmps26
      go_wp2_with fail
      refine (HS.out _ (HK.out.top 1)).mono ?_
      rintro e w2 ⟨rfl, b2⟩
      have HK2 := Lib.hid (HK.out.go b2)
      clear C b2 HS
      have C := HK2.out.says
      simp only [sayAll, cellsSay, qB, qW, Nat.reduceAdd, and_true, true_and] at C
      go_wp2_with fail
      go_ret
      exact ⟨by rw [Hr.out]; rfl, HK2.out.top 1⟩
    rw [decide_eq_true c5] at hQ
    have Hr := Lib.hid (show r = true by rw [hr, decide_eq_true c1, decide_eq_true c2, decide_eq_true c3, decide_eq_true c4, decide_eq_true c5]; simp)
    clear hr c1 c2 c3 c4 c5
    go_enter Try.func26, Try.ntmps26
    go_wp2_with fail
    refine (HS.out _ (HK.out.top 1)).mono ?_
    rintro e w2 ⟨rfl, b2⟩
    have HK2 := Lib.hid (HK.out.go b2)
    clear C b2 HS
    have C := HK2.out.says
    simp only [sayAll, cellsSay, qB, qW, Nat.reduceAdd, and_true, true_and] at C
    go_wp2_with fail
    go_ret
    exact ⟨by rw [Hr.out]; rfl, HK2.out.top 1⟩
  have Hr := Lib.hid (show r = false by rw [hr, if_neg k1, if_neg k2, if_neg k3, if_neg k4])
  have h1 : (((kd : Nat) : Int) == 1) = false := beq_eq_false_iff_ne.2 (by omega)
  have h2 : (((kd : Nat) : Int) == 2) = false := beq_eq_false_iff_ne.2 (by omega)
  have h3 : (((kd : Nat) : Int) == 3) = false := beq_eq_false_iff_ne.2 (by omega)
  have h4 : (((kd : Nat) : Int) == 4) = false := beq_eq_false_iff_ne.2 (by omega)
  clear hr k1 k2 k3 k4
  go_enter Try.func26, Try.ntmps26
  go_wp2_with fail
  go_ret
  exact ⟨by rw [Hr.out]; rfl, HK.out.top 1⟩

end Go.Proofs.Ytpedobpbpomkaaa

/- Layer 11: numbers behind bytes (the program's), a place behind bytes, numbers out of bytes with noughts behind them (the document's). -/
set_option linter.unusedSimpArgs false
set_option linter.unusedVariables false
namespace Go.Proofs.Ytpedobpbpomkaaa
open Go.RowKit
set_option maxRecDepth 100000

/-- a call that appends to bytes of the caller's: what else is kept, and where the new ones lie -/
structure Gt (v v' : Value) (w w' : World) : Prop where
  gr : w.grownBy w' v.ownBlock
  lo : ∀ j, v'.ownBlock = some j → v.ownBlock = some j ∨ w.heap.size ≤ j
section
variable {v v' : Value} {a b c w w' w0 : World}
theorem Gt.refl (v : Value) (w : World) : Gt v v w w := ⟨World.grownBy.refl _ _, fun j h => .inl h⟩
theorem Gt.go (h : Gt v v' a b) (k : Below b.heap.size b c) : Gt v v' a c := ⟨⟨k.os.trans h.gr.os, k.tape.trans h.gr.tape, k.output.trans h.gr.output, Nat.le_trans h.gr.size k.size, fun j hj hv => (k.block j (Nat.lt_of_lt_of_le hj h.gr.size)).trans (h.gr.block j hj hv)⟩, h.lo⟩
theorem Gt.app {v1 v2 : Value} (h : Gt v v1 a b) (k : b.grownBy c v1.ownBlock) (hl : ∀ j, v2.ownBlock = some j → v1.ownBlock = some j ∨ b.heap.size ≤ j) : Gt v v2 a c := ⟨⟨k.os.trans h.gr.os, k.tape.trans h.gr.tape, k.output.trans h.gr.output, Nat.le_trans h.gr.size k.size, fun j hj hv => (k.block j (Nat.lt_of_lt_of_le hj h.gr.size) (fun e => by
  rcases h.lo j e.symm with h1 | h1
  · exact hv h1.symm
  · omega)).trans (h.gr.block j hj hv)⟩, fun j e => by
  rcases hl j e with h1 | h1
  · exact h.lo j h1
  · exact .inr (Nat.le_trans h.gr.size h1)⟩
theorem Gt.trans {v1 v2 : Value} (h : Gt v v1 a b) (k : Gt v1 v2 b c) : Gt v v2 a c := h.app k.gr k.lo
theorem Gt.one {v1 : Value} {g' n cp : Nat} (h : Gt v v1 a b) (k : b.grownBy c v1.ownBlock) (hl : v1.ownBlock = some g' ∨ g' = b.heap.size) : Gt v (.slice (some ⟨g', 0, none⟩) n cp) a c := h.app k (fun j e => by
  have e2 : g' = j := by simpa [Value.ownBlock] using e
  subst e2
  rcases hl with h9 | h9
  · exact .inl h9
  · exact .inr (by omega))
theorem Gt.blk {g : Nat} {t : TypeId} {cs : Array Value} (h : Gt v v' w w') (hb : Blk w g t cs) (hv : v.ownBlock ≠ some g) : Blk w' g t cs ∧ v'.ownBlock ≠ some g := ⟨hb.kept h.gr hv, fun e => by
  have := hb.lt
  rcases h.lo g e with h1 | h1
  · exact hv h1
  · omega⟩
theorem Gt.below {base : Nat} {l : List UInt8} (h : Gt v v' w w') (ho : OwnB w base v l) (hb : base ≤ w.heap.size) : Below base w w' := own_grown ho h.gr hb
end

set_option maxHeartbeats 1000000 in
theorem nput_any (v wd : Nat) (A : Option Addr) (c : Nat) (L : List UInt8) (base : Nat) (w : World) (hown : OwnB w base (.slice A L.length c) L) (hwd : wd ≤ 8) (hv : v < 18446744073709551616) (hL : L.length ≤ 100000) (hb : base ≤ w.heap.size) :
    Calls Try.prog 43 #[.slice A L.length c, .int .u64 (v : Nat), .int .i64 (wd : Nat)] w fun e w' => ∃ A' c' N, e = .returned (.slice A' N c') ∧ Hid (N = L.length + wd ∧ OwnB w' base (.slice A' N c') (L ++ be wd v) ∧ Gt (.slice A L.length c) (.slice A' N c') w w') := by
  have HO := Lib.hid hown
  clear hown
  have hw0 : IntKind.i64.wrap ((wd : Int) - 1) = (wd : Int) - 1 := by rw [IntKind.wrap_i64]; omega
  go_enter Try.func43, Try.ntmps43
  go_wp2_with fail
  go_loopw [0, 9] (fun s0 s9 wr => ∃ (j N : Nat) (M : List UInt8) (A2 : Option Addr) (c2 : Nat), j ≤ wd ∧ s9 = .int .i64 j ∧ s0 = .slice A2 N c2 ∧ Hid (N = M.length) ∧ Hid (M = L ++ (be wd v).take j) ∧ Hid (OwnB wr base (.slice A2 N c2) M) ∧ Hid (Gt (.slice A L.length c) (.slice A2 N c2) w wr))
    (fun _ s9 _ => wd - (intOf s9).toNat)
  case atStart => exact ⟨0, L.length, L, A, c, Nat.zero_le _, rfl, rfl, Lib.hid rfl, Lib.hid (by simp), HO, Lib.hid (Gt.refl _ _)⟩
  case round =>
    obtain ⟨j, N, M, A2, c2, hj, rfl, rfl, HN, HM, HOr, HB⟩ := hrel
    have hsz : base ≤ wr.heap.size := Nat.le_trans hb HB.out.gr.size
    have hMl : M.length ≤ 100008 := by rw [HM.out, List.length_append, List.length_take, be_len]; omega
    have hNl : N ≤ 100008 := by rw [HN.out]; exact hMl
    by_cases hlt : j < wd
    · obtain ⟨k, hk⟩ : ∃ k, k = wd - 1 - j := ⟨_, rfl⟩
      have hst := be_take (v := v) hlt
      rw [← hk] at hst
      obtain ⟨s, hs⟩ : ∃ s : Nat, s = 8 * k := ⟨_, rfl⟩
      have f0 : IntKind.i64.wrap ((wd : Int) - 1 - (j : Int)) = (k : Int) := by rw [IntKind.wrap_i64]; omega
      have f1 : IntKind.i64.wrap (8 * (k : Int)) = (s : Int) := by rw [IntKind.wrap_i64]; omega
      obtain ⟨q, hq⟩ : ∃ q, q = v / 256 ^ k := ⟨_, rfl⟩
      have f3 : (v : Int) / 2 ^ s = (q : Int) := by rw [hs, be_shift, hq]
      obtain ⟨b, hb2⟩ : ∃ b, b = UInt8.ofNat (q % 256) := ⟨_, rfl⟩
      have f4 : IntKind.u8.wrap (q : Int) = (b.toNat : Int) := by rw [u8_byte, hb2]
      rw [← hq, ← hb2] at hst
      have HM2 := Lib.hid (show M ++ [b] = L ++ (be wd v).take (j + 1) by rw [hst, HM.out, List.append_assoc])
      have hs64 : (s : Int) < 64 := by omega
      have hs64' : s < 64 := by omega
      have hjl : (j : Int) < wd := by omega
      have hMN := HN.out
      subst hMN
      clear hst hs hq hb2 hk
      go_wp2_with (at_builtin; go_must (refine appBL _ rfl (.tmp 12) (.tmp 21) rfl base _ M rfl (HOr.out.alloc _) wr.heap.size b rfl ((Blk.new wr _ _).cell 0) (by omega) (by simp; omega) ?_); intro g5 c5 w5 hown5 hg5 hl5 hz5)
      go_roundw
      case measure => simp [intOf]; omega
      case rel => exact ⟨j + 1, M.length + 1, M ++ [b], some ⟨g5, 0, none⟩, c5, by omega, by go_num, rfl, Lib.hid (by simp), HM2, Lib.hid hown5, Lib.hid ((HB.out.go (below_alloc wr _)).one hg5 hl5)⟩
    · obtain rfl : j = wd := by omega
      have HMf : Hid (N = L.length + j ∧ M = L ++ be j v) := Lib.hid (by
        have h1 := HM.out
        rw [List.take_of_length_le (by rw [be_len]; omega)] at h1
        exact ⟨by rw [HN.out, h1, List.length_append, be_len], h1⟩)
      have hjl : ¬ (j : Int) < j := by omega
      go_wp2_with fail
      go_ret
      exact ⟨A2, c2, N, rfl, Lib.hid ⟨HMf.out.1, by rw [← HMf.out.2]; exact HOr.out, HB.out⟩⟩
theorem nput_N (v wd N : Nat) (A : Option Addr) (c : Nat) (L : List UInt8) (base : Nat) (w : World) (hN : N = L.length) (hown : OwnB w base (.slice A N c) L) (hwd : wd ≤ 8) (hv : v < 18446744073709551616) (hL : N ≤ 100000) (hb : base ≤ w.heap.size) :
    Calls Try.prog 43 #[.slice A N c, .int .u64 (v : Nat), .int .i64 (wd : Nat)] w fun e w' => ∃ A' c' N', e = .returned (.slice A' N' c') ∧ Hid (N' = N + wd ∧ OwnB w' base (.slice A' N' c') (L ++ be wd v) ∧ Gt (.slice A N c) (.slice A' N' c') w w') := by
  subst hN
  exact nput_any v wd A c L base w hown hwd hv hL hb


set_option maxHeartbeats 1000000 in
theorem rput8_any (v wd : Nat) (A : Option Addr) (c : Nat) (L : List UInt8) (base : Nat) (w : World) (hown : OwnB w base (.slice A L.length c) L) (hwd : wd ≤ 8) (hv : v < 18446744073709551616) (hL : L.length ≤ 100000) (hb : base ≤ w.heap.size) :
    Calls Try.prog 33 #[.slice A L.length c, .int .u64 (v : Nat), .int .i64 (wd : Nat)] w fun e w' => ∃ A' c' N, e = .returned (.slice A' N c') ∧ Hid (N = L.length + wd ∧ OwnB w' base (.slice A' N c') (L ++ be wd v) ∧ Gt (.slice A L.length c) (.slice A' N c') w w') := by
  have HO := Lib.hid hown
  clear hown
  have hw0 : IntKind.i64.wrap ((wd : Int) - 1) = (wd : Int) - 1 := by rw [IntKind.wrap_i64]; omega
  go_enter Try.func33, Try.ntmps33
  go_wp2_with fail
  go_loopw [0, 7] (fun s0 s7 wr => ∃ (i : Int) (j N : Nat) (M : List UInt8) (A2 : Option Addr) (c2 : Nat), j ≤ wd ∧ Hid (i = (wd : Int) - 1 - j) ∧ s7 = .int .i64 i ∧ s0 = .slice A2 N c2 ∧ Hid (N = M.length) ∧ Hid (M = L ++ (be wd v).take j) ∧ Hid (OwnB wr base (.slice A2 N c2) M) ∧ Hid (Gt (.slice A L.length c) (.slice A2 N c2) w wr))
    (fun _ s7 _ => (intOf s7 + 1).toNat)
  case atStart => exact ⟨(wd : Int) - 1, 0, L.length, L, A, c, Nat.zero_le _, Lib.hid (by omega), rfl, rfl, Lib.hid rfl, Lib.hid (by simp), HO, Lib.hid (Gt.refl _ _)⟩
  case round =>
    obtain ⟨i, j, N, M, A2, c2, hj, Hi, rfl, rfl, HN, HM, HOr, HB⟩ := hrel
    have hsz : base ≤ wr.heap.size := Nat.le_trans hb HB.out.gr.size
    have hMl : M.length ≤ 100008 := by rw [HM.out, List.length_append, List.length_take, be_len]; omega
    have hNl : N ≤ 100008 := by rw [HN.out]; exact hMl
    by_cases hlt : j < wd
    · obtain ⟨k, hk⟩ : ∃ k, k = wd - 1 - j := ⟨_, rfl⟩
      obtain rfl : i = (k : Int) := by have := Hi.out; omega
      have hst := be_take (v := v) hlt
      rw [← hk] at hst
      obtain ⟨s, hs⟩ : ∃ s : Nat, s = 8 * k := ⟨_, rfl⟩
      have hw1 : IntKind.i64.wrap ((k : Int) - 1) = (k : Int) - 1 := by rw [IntKind.wrap_i64]; omega
      have f2 : IntKind.u64.wrap (s : Int) = (s : Int) := by rw [IntKind.wrap_u64]; omega
      have Hk := Lib.hid hk
      have f1 : IntKind.i64.wrap (8 * (k : Int)) = (s : Int) := by rw [IntKind.wrap_i64]; omega
      obtain ⟨q, hq⟩ : ∃ q, q = v / 256 ^ k := ⟨_, rfl⟩
      have f3 : (v : Int) / 2 ^ s = (q : Int) := by rw [hs, be_shift, hq]
      obtain ⟨b, hb2⟩ : ∃ b, b = UInt8.ofNat (q % 256) := ⟨_, rfl⟩
      have f4 : IntKind.u8.wrap (q : Int) = (b.toNat : Int) := by rw [u8_byte, hb2]
      rw [← hq, ← hb2] at hst
      have HM2 := Lib.hid (show M ++ [b] = L ++ (be wd v).take (j + 1) by rw [hst, HM.out, List.append_assoc])
      have hs64 : (s : Int) < 64 := by omega
      have hs64' : s < 64 := by omega
      have hMN := HN.out
      subst hMN
      clear hst hs hq hb2 hk
      go_wp2_with (at_builtin; go_must (refine appBL _ rfl (.tmp 14) (.tmp 21) rfl base _ M rfl (HOr.out.alloc _) wr.heap.size b rfl ((Blk.new wr _ _).cell 0) (by omega) (by simp; omega) ?_); intro g5 c5 w5 hown5 hg5 hl5 hz5)
      go_roundw
      case measure => simp [intOf] <;> omega
      case rel => exact ⟨(k : Int) - 1, j + 1, M.length + 1, M ++ [b], some ⟨g5, 0, none⟩, c5, by omega, Lib.hid (by have := Hk.out; omega), rfl, rfl, Lib.hid (by simp), HM2, Lib.hid hown5, Lib.hid ((HB.out.go (below_alloc wr _)).one hg5 hl5)⟩
    · obtain rfl : j = wd := by omega
      obtain rfl : i = -1 := by have := Hi.out; omega
      have HMf : Hid (N = L.length + j ∧ M = L ++ be j v) := Lib.hid (by
        have h1 := HM.out
        rw [List.take_of_length_le (by rw [be_len]; omega)] at h1
        exact ⟨by rw [HN.out, h1, List.length_append, be_len], h1⟩)
      go_wp2_with fail
      go_ret
      exact ⟨A2, c2, N, rfl, Lib.hid ⟨HMf.out.1, by rw [← HMf.out.2]; exact HOr.out, HB.out⟩⟩
theorem rput8_N (v wd N : Nat) (A : Option Addr) (c : Nat) (L : List UInt8) (base : Nat) (w : World) (hN : N = L.length) (hown : OwnB w base (.slice A N c) L) (hwd : wd ≤ 8) (hv : v < 18446744073709551616) (hL : N ≤ 100000) (hb : base ≤ w.heap.size) :
    Calls Try.prog 33 #[.slice A N c, .int .u64 (v : Nat), .int .i64 (wd : Nat)] w fun e w' => ∃ A' c' N', e = .returned (.slice A' N' c') ∧ Hid (N' = N + wd ∧ OwnB w' base (.slice A' N' c') (L ++ be wd v) ∧ Gt (.slice A N c) (.slice A' N' c') w w') := by
  subst hN
  exact rput8_any v wd A c L base w hown hwd hv hL hb


/-- the document's number, with noughts behind the end -/
theorem num_noughts (a : List UInt8) (r : Nat) : num (a ++ List.replicate r 0) = num a * 256 ^ r := by
  rw [num_append, List.length_replicate]
  have : num (List.replicate r (0 : UInt8)) = 0 := by
    induction r with
    | zero => rfl
    | succ r ih => rw [List.replicate_succ, num_cons, ih]; simp
  omega
def padL (l : List UInt8) (at_ wd : Nat) : List UInt8 := part l at_ wd ++ List.replicate (wd - (part l at_ wd).length) 0
theorem padL_num (l : List UInt8) (at_ wd : Nat) : num (padL l at_ wd) = numP l at_ wd := num_noughts _ _
theorem padL_len (l : List UInt8) (at_ wd : Nat) : (padL l at_ wd).length = wd := by
  unfold padL
  rw [List.length_append, List.length_replicate]
  have : (part l at_ wd).length ≤ wd := by unfold part; rw [List.length_take]; omega
  omega
theorem padL_in (l : List UInt8) (at_ wd k : Nat) (hk : k < wd) (h : at_ + k < l.length) : (padL l at_ wd)[k]? = some (l[at_ + k]'h) := by
  unfold padL part
  rw [List.getElem?_append_left (by rw [List.length_take, List.length_drop]; omega), List.getElem?_take, if_pos hk, List.getElem?_drop]
  exact List.getElem?_eq_getElem h
theorem padL_out (l : List UInt8) (at_ wd k : Nat) (hk : k < wd) (h : l.length ≤ at_ + k) : (padL l at_ wd)[k]? = some 0 := by
  unfold padL
  have : (part l at_ wd).length ≤ k := by unfold part; rw [List.length_take, List.length_drop]; omega
  rw [List.getElem?_append_right this, List.getElem?_replicate, if_pos (by omega)]

set_option maxHeartbeats 1000000 in
theorem rnum11_any (at_ wd : Nat) (A : Option Addr) (c : Nat) (l : List UInt8) (w : World) (hA : Bs w A l) (hwd : wd ≤ 8) (hat : at_ ≤ 1000) (hL : l.length ≤ 100000) :
    Calls Try.prog 49 #[.slice A l.length c, .int .i64 (at_ : Nat), .int .i64 (wd : Nat)] w fun e w' => e = .returned (.int .u64 (numP l at_ wd : Nat)) ∧ w' = w := by
  rw [← padL_num]
  have hpl := padL_len l at_ wd
  have HIn := Lib.hid (padL_in l at_ wd)
  have HOut := Lib.hid (padL_out l at_ wd)
  obtain ⟨P, hP⟩ : ∃ P, P = padL l at_ wd := ⟨_, rfl⟩
  rw [← hP] at hpl HIn HOut ⊢
  obtain ⟨R, hR⟩ : ∃ R, R = num P := ⟨_, rfl⟩
  rw [← hR]
  have HR := Lib.hid hR
  have HA := Lib.hid hA
  have HPl := Lib.hid hpl
  clear hA hR hpl hP
  have hwe : IntKind.i64.wrap ((at_ : Int) + (wd : Int)) = (at_ : Int) + wd := by rw [IntKind.wrap_i64]; omega
  go_enter Try.func49, Try.ntmps49
  go_wp2_with fail
  go_loopw [7, 8] (fun s7 s8 wr => ∃ (i k n : Nat), k ≤ wd ∧ Hid (i = at_ + k) ∧ s8 = .int .i64 i ∧ s7 = .int .u64 n ∧ Hid (n = num (P.take k)) ∧ w = wr)
    (fun _ s8 _ => (at_ + wd) - (intOf s8).toNat)
  case atStart => exact ⟨at_, 0, 0, Nat.zero_le _, Lib.hid rfl, rfl, rfl, Lib.hid rfl, rfl⟩
  case round =>
    obtain ⟨i, k, n, hk, Hi, rfl, rfl, HN, rfl⟩ := hrel
    have hi := Hi.out
    by_cases hlt : k < wd
    · have hib : decide ((i : Int) < (at_ : Int) + wd) = true := decide_eq_true (by omega)
      have hlt8 := num_lt (P.take (k + 1))
      have hk8 : (P.take (k + 1)).length ≤ 8 := by rw [List.length_take, HPl.out]; omega
      obtain ⟨n', hn'⟩ : ∃ n', n' = num (P.take (k + 1)) := ⟨_, rfl⟩
      have hb64 : n' < 18446744073709551616 := by rw [hn']; exact Nat.lt_of_lt_of_le hlt8 (Nat.le_trans (Nat.pow_le_pow_right (by decide) hk8) (by decide))
      have HN' := Lib.hid hn'
      by_cases hil : i < l.length
      · have hil2 : (i : Int) < l.length := by omega
        obtain ⟨p, o, rfl, hc⟩ := HA.out i l[i] (List.getElem?_eq_getElem hil)
        have hst := num_snoc (HIn.out k hlt (by omega))
        have hll : l[at_ + k]'(by omega) = l[i] := by congr 1; omega
        rw [hll, ← HN.out] at hst
        obtain ⟨x, hx⟩ : ∃ x, x = l[i] := ⟨_, rfl⟩
        rw [← hx] at hc hst
        rw [← hn'] at hst
        have hxl := x.toNat_lt
        have f0 : IntKind.u64.wrap ((x.toNat : Nat) : Int) = (x.toNat : Int) := by rw [IntKind.wrap_u64]; omega
        obtain ⟨m, hm⟩ : ∃ m, m = 256 * n := ⟨_, rfl⟩
        have f1 : IntKind.u64.wrap ((n : Int) * 256) = (m : Int) := by rw [IntKind.wrap_u64]; omega
        have f2 : IntKind.u64.wrap ((m : Int) + (x.toNat : Int)) = (n' : Int) := by rw [IntKind.wrap_u64]; omega
        unfold bv at hc
        clear hst hlt8 hx hn' hb64 hm hi hk8 hll
        go_wp2_with fail
        go_roundw
        case measure => have := Hi.out; simp [intOf]; omega
        case rel => exact ⟨i + 1, k + 1, n', by omega, Lib.hid (by have := Hi.out; omega), by go_num, rfl, HN', by first | rfl | trivial⟩
      · have hil2 : ¬ (i : Int) < l.length := by omega
        have hst := num_snoc (HOut.out k hlt (by omega))
        rw [← HN.out, ← hn'] at hst
        simp only [UInt8.toNat_zero, Nat.add_zero, UInt8.reduceToNat] at hst
        have f1 : IntKind.u64.wrap ((n : Int) * 256) = (n' : Int) := by rw [IntKind.wrap_u64]; omega
        have hi3 : i ≤ 1008 := by omega
        clear hst hlt8 hn' hb64 hi hk8
        go_wp2_with fail
        go_roundw
        case measure => have := Hi.out; simp [intOf]; omega
        case rel => exact ⟨i + 1, k + 1, n', by omega, Lib.hid (by have := Hi.out; omega), by go_num, rfl, HN', by first | rfl | trivial⟩
    · obtain rfl : k = wd := by omega
      have hib : decide ((i : Int) < (at_ : Int) + k) = false := decide_eq_false (by omega)
      have hn := HN.out
      rw [List.take_of_length_le (by rw [HPl.out]; exact Nat.le_refl _), ← HR.out] at hn
      have HNR := Lib.hid hn
      clear hn hi
      go_wp2_with fail
      go_ret
      exact ⟨by rw [← HNR.out]; rfl, rfl⟩

/-- the document's place -/
theorem rplace_N (x y z N : Nat) (A : Option Addr) (c : Nat) (L : List UInt8) (base : Nat) (w : World) (hN : N = L.length) (hown : OwnB w base (.slice A N c) L) (hx : x < 4294967296) (hy : y < 4294967296) (hz : z < 4294967296) (hL : N ≤ 50000) (hb : base ≤ w.heap.size) :
    Calls Try.prog 44 #[.slice A N c, .agg #[.int .u32 (x : Nat), .int .u32 (y : Nat), .int .u32 (z : Nat)]] w fun e w' => ∃ A' c' N', e = .returned (.slice A' N' c') ∧ Hid (N' = N + 12 ∧ OwnB w' base (.slice A' N' c') (L ++ be 4 x ++ be 4 y ++ be 4 z) ∧ Gt (.slice A N c) (.slice A' N' c') w w') := by
  have u1 : IntKind.u64.wrap (x : Int) = (x : Int) := by rw [IntKind.wrap_u64]; omega
  have u2 : IntKind.u64.wrap (y : Int) = (y : Int) := by rw [IntKind.wrap_u64]; omega
  have u3 : IntKind.u64.wrap (z : Int) = (z : Int) := by rw [IntKind.wrap_u64]; omega
  have HB := Lib.hid (Blk.new w 24 #[.int .u32 (x : Nat), .int .u32 (y : Nat), .int .u32 (z : Nat)])
  have hne : (Value.slice A N c).ownBlock ≠ some w.heap.size := fun e => Nat.lt_irrefl _ (World.ownsRow.lt hown _ e).2
  have hO := hown.alloc (.cells #[.int .u32 (x : Nat), .int .u32 (y : Nat), .int .u32 (z : Nat)] 24)
  have hG := Gt.go (Gt.refl (.slice A N c) w) (below_alloc w (.cells #[.int .u32 (x : Nat), .int .u32 (y : Nat), .int .u32 (z : Nat)] 24))
  have hsz : base ≤ (w.alloc (.cells #[.int .u32 (x : Nat), .int .u32 (y : Nat), .int .u32 (z : Nat)] 24)).heap.size := by simp; omega
  have HO := Lib.hid hO
  have HG := Lib.hid hG
  have HNe := Lib.hid hne
  have HN := Lib.hid hN
  have C := blk_says HB.out
  simp only [cellsSay, Nat.reduceAdd, and_true] at C
  clear hown hO hG hne hN
  go_enter Try.func44, Try.ntmps44
  go_wp2_with fail
  refine (rput8_N x 4 N A c L base _ HN.out HO.out (by decide) (by omega) (by omega) hsz).mono ?_
  clear C
  rintro e w1 ⟨A1, c1, N1, rfl, H1⟩
  obtain ⟨hN1, hO1, hG1⟩ := H1.out
  have K1 := hG1.blk HB.out HNe.out
  have HB1 := Lib.hid K1.1
  have HNe1 := Lib.hid K1.2
  have HG1 := Lib.hid (HG.out.trans hG1)
  have HO1 := Lib.hid hO1
  have hs1 : base ≤ w1.heap.size := Nat.le_trans hsz hG1.gr.size
  have HN1 := Lib.hid (show N1 = (L ++ be 4 x).length by rw [hN1, List.length_append, be_len, HN.out])
  have hNl1 : N1 ≤ 50004 := by omega
  have HNN1 := Lib.hid hN1
  clear hN1 hO1 hG1 K1 H1
  have C := blk_says HB1.out
  simp only [cellsSay, Nat.reduceAdd, and_true] at C
  go_wp2_with fail
  refine (rput8_N y 4 N1 A1 c1 (L ++ be 4 x) base _ HN1.out HO1.out (by decide) (by omega) (by omega) hs1).mono ?_
  clear C
  rintro e w2 ⟨A2, c2, N2, rfl, H2⟩
  obtain ⟨hN2, hO2, hG2⟩ := H2.out
  have K2 := hG2.blk HB1.out HNe1.out
  have HB2 := Lib.hid K2.1
  have HNe2 := Lib.hid K2.2
  have HG2 := Lib.hid (HG1.out.trans hG2)
  have HO2 := Lib.hid hO2
  have hs2 : base ≤ w2.heap.size := Nat.le_trans hs1 hG2.gr.size
  have HN2 := Lib.hid (show N2 = (L ++ be 4 x ++ be 4 y).length by rw [hN2, List.length_append, be_len, HN1.out])
  have hNl2 : N2 ≤ 50008 := by omega
  have HNN2 := Lib.hid hN2
  clear hN2 hO2 hG2 K2 H2
  have C := blk_says HB2.out
  simp only [cellsSay, Nat.reduceAdd, and_true] at C
  go_wp2_with fail
  refine (rput8_N z 4 N2 A2 c2 (L ++ be 4 x ++ be 4 y) base _ HN2.out HO2.out (by decide) (by omega) (by omega) hs2).mono ?_
  clear C
  rintro e w3 ⟨A3, c3, N3, rfl, H3⟩
  obtain ⟨hN3, hO3, hG3⟩ := H3.out
  have K3 := hG3.blk HB2.out HNe2.out
  have HB3 := Lib.hid K3.1
  have HNe3 := Lib.hid K3.2
  have HG3 := Lib.hid (HG2.out.trans hG3)
  have HO3 := Lib.hid hO3
  have hs3 : base ≤ w3.heap.size := Nat.le_trans hs2 hG3.gr.size
  have HN3 := Lib.hid (show N3 = (L ++ be 4 x ++ be 4 y ++ be 4 z).length by rw [hN3, List.length_append, be_len, HN2.out])
  have hNl3 : N3 ≤ 50012 := by omega
  have HNN3 := Lib.hid hN3
  clear hN3 hO3 hG3 K3 H3
  go_wp2_with fail
  go_ret
  exact ⟨A3, c3, N3, rfl, Lib.hid ⟨by have := HNN1.out; have := HNN2.out; have := HNN3.out; omega, HO3.out, HG3.out⟩⟩

end Go.Proofs.Ytpedobpbpomkaaa

/- Layer 11: what Encode has made. -/
set_option linter.unusedSimpArgs false
set_option linter.unusedVariables false
namespace Go.Proofs.Ytpedobpbpomkaaa
open Go.RowKit
set_option maxRecDepth 100000

/-- what Encode has made: the note's box, the bytes -/
structure Ne (w : World) (W : World) (cs : Array Value) (N : Nat) (A' : Option Addr) (c' : Nat) (M : List UInt8) : Prop where
  fr : Blk W w.heap.size 50 cs
  own : OwnB W (w.heap.size + 1) (.slice A' N c') M
  len : N = M.length
  top : Below w.heap.size w W
section
variable {w W W' : World} {cs : Array Value} {N : Nat} {A' : Option Addr} {c' : Nat} {M : List UInt8}
theorem Ne.siz (h : Ne w W cs N A' c' M) : w.heap.size + 1 ≤ W.heap.size := h.fr.lt
theorem Ne.start (hf : Blk W w.heap.size 50 cs) (ht : Below w.heap.size w W) (x : UInt8) : Ne w (W.alloc (.cells #[.int .u8 (x.toNat : Nat)] 5)) cs 1 (some ⟨W.heap.size, 0, none⟩) 1 [x] :=
  ⟨hf.alloc _, own_built W [x] (base := w.heap.size + 1) hf.lt (by simp), rfl, ht.trans ((below_alloc W _).mono ht.size)⟩
theorem Ne.go (h : Ne w W cs N A' c' M) (b : Below W.heap.size W W') : Ne w W' cs N A' c' M := ⟨h.fr.below b h.fr.lt, h.own.below b, h.len, h.top.trans (b.mono h.top.size)⟩
theorem Ne.gt {N2 : Nat} {A2 : Option Addr} {c2 : Nat} {M2 : List UInt8} (h : Ne w W cs N A' c' M) (g : Gt (.slice A' N c') (.slice A2 N2 c2) W W') (ho : OwnB W' (w.heap.size + 1) (.slice A2 N2 c2) M2) (hN : N2 = M2.length) : Ne w W' cs N2 A2 c2 M2 :=
  ⟨(g.blk h.fr (OwnB.ne h.own (Nat.lt_succ_self _))).1, ho, hN, h.top.trans ((g.below h.own h.siz).mono (Nat.le_succ _))⟩
theorem Ne.rput (h : Ne w W cs N A' c' M) (v wd : Nat) (hwd : wd ≤ 8) (hv : v < 18446744073709551616) (hN : N ≤ 100000) :
    Calls Try.prog 33 #[.slice A' N c', .int .u64 (v : Nat), .int .i64 (wd : Nat)] W fun e W' => ∃ A2 c2 N2, e = .returned (.slice A2 N2 c2) ∧ Hid (N2 = N + wd ∧ Ne w W' cs N2 A2 c2 (M ++ be wd v) ∧ Gt (.slice A' N c') (.slice A2 N2 c2) W W') := by
  refine (rput8_N v wd N A' c' M _ W h.len h.own hwd hv hN h.siz).mono ?_
  rintro e W' ⟨A2, c2, N2, rfl, H⟩
  obtain ⟨h1, h2, h3⟩ := H.out
  exact ⟨A2, c2, N2, rfl, Lib.hid ⟨h1, h.gt h3 h2 (by rw [h1, List.length_append, be_len, h.len]), h3⟩⟩
theorem Ne.nput (h : Ne w W cs N A' c' M) (v wd : Nat) (hwd : wd ≤ 8) (hv : v < 18446744073709551616) (hN : N ≤ 100000) :
    Calls Try.prog 43 #[.slice A' N c', .int .u64 (v : Nat), .int .i64 (wd : Nat)] W fun e W' => ∃ A2 c2 N2, e = .returned (.slice A2 N2 c2) ∧ Hid (N2 = N + wd ∧ Ne w W' cs N2 A2 c2 (M ++ be wd v) ∧ Gt (.slice A' N c') (.slice A2 N2 c2) W W') := by
  refine (nput_N v wd N A' c' M _ W h.len h.own hwd hv hN h.siz).mono ?_
  rintro e W' ⟨A2, c2, N2, rfl, H⟩
  obtain ⟨h1, h2, h3⟩ := H.out
  exact ⟨A2, c2, N2, rfl, Lib.hid ⟨h1, h.gt h3 h2 (by rw [h1, List.length_append, be_len, h.len]), h3⟩⟩
theorem Ne.place (h : Ne w W cs N A' c' M) (x y z : Nat) (hx : x < 4294967296) (hy : y < 4294967296) (hz : z < 4294967296) (hN : N ≤ 50000) :
    Calls Try.prog 44 #[.slice A' N c', .agg #[.int .u32 (x : Nat), .int .u32 (y : Nat), .int .u32 (z : Nat)]] W fun e W' => ∃ A2 c2 N2, e = .returned (.slice A2 N2 c2) ∧ Hid (N2 = N + 12 ∧ Ne w W' cs N2 A2 c2 (M ++ be 4 x ++ be 4 y ++ be 4 z)) := by
  refine (rplace_N x y z N A' c' M _ W h.len h.own hx hy hz hN h.siz).mono ?_
  rintro e W' ⟨A2, c2, N2, rfl, H⟩
  obtain ⟨h1, h2, h3⟩ := H.out
  exact ⟨A2, c2, N2, rfl, Lib.hid ⟨h1, h.gt h3 h2 (by rw [h1, List.length_append, List.length_append, List.length_append, be_len, be_len, be_len, h.len])⟩⟩
end
theorem encN_1 (d : NoD) (h : d.kd = 1) (hm : mayN d = true) : encN d = [1] ++ be 4 d.ep := by
  unfold encN sN
  rw [h, if_pos rfl, (mayN_l hm (by omega)).1]; simp; rfl
theorem encN_2 (d : NoD) (h : d.kd = 2) (hm : mayN d = true) : encN d = [2] ++ be 4 d.se ++ be 8 (s64 d.st) ++ be 8 d.sv := by
  unfold encN sN
  rw [h, if_neg (by decide), if_pos rfl, (mayN_l hm (by omega)).1]; simp; rfl
theorem encN_3 (d : NoD) (h : d.kd = 3) (hm : mayN d = true) : encN d = [3] ++ be 4 d.se ++ be 4 d.pc ++ be 4 d.pb ++ be 4 d.pn := by
  unfold encN sN
  rw [h, if_neg (by decide), if_neg (by decide), if_pos rfl, (mayN_l hm (by omega)).1]; simp; rfl
theorem encN_4 (d : NoD) (h : d.kd = 4) : encN d = [4] ++ be 4 d.se ++ be 4 d.pc ++ be 4 d.pb ++ be 4 d.pn ++ be 4 d.cn ++ [if d.cl then 1 else 0] ++ be 2 d.n.toNat ++ d.l := by
  have h1 : be 1 (if d.cl then 1 else 0) = [if d.cl then 1 else 0] := by cases d.cl <;> rfl
  unfold encN sN
  rw [h, if_neg (by decide), if_neg (by decide), if_neg (by decide), h1]; simp; rfl
theorem byte_one (W : World) : (W.alloc (.cells #[.int .u8 1] 5)).cell? ⟨W.heap.size, 0, none⟩ = some (bv 1) := (Blk.new W 5 #[.int .u8 1]).cell 0
theorem byte_zero (W : World) : (W.alloc (.cells #[.int .u8 0] 5)).cell? ⟨W.heap.size, 0, none⟩ = some (bv 0) := (Blk.new W 5 #[.int .u8 0]).cell 0
theorem u64_s64 (t : Int) : IntKind.u64.wrap t = (s64 t : Int) := by rw [IntKind.wrap_u64]; unfold s64; omega

end Go.Proofs.Ytpedobpbpomkaaa

/- Layer 11: Encode of the document. -/
set_option linter.unusedSimpArgs false
set_option linter.unusedVariables false
namespace Go.Proofs.Ytpedobpbpomkaaa
open Go.RowKit
set_option maxRecDepth 100000

set_option maxHeartbeats 2000000 in
theorem rnenc_no (d : NoD) (A : Option Addr) (c : Nat) (w : World) (hA : Bs w A d.l) (ho : d.ok) (hL : d.l.length ≤ 100000) (hm : mayN d = false) :
    Calls Try.prog 24 #[.agg (noC d A c)] w fun e w' => e = .returned (.tuple #[.slice none 0 0, .int .i64 110]) ∧ Below w.heap.size w w' := by
  have hM := rnmay_any d A c (w.alloc (.cells (noC d A c) 50)) (hA.below (below_alloc w _)) ho hL
  rw [hm] at hM
  clear hA ho hm
  obtain ⟨kd, ep, se, st, sv, pc, pb, pn, cn, cl, l, n⟩ := d
  simp only [noC] at hM ⊢
  have HM := Lib.hid hM
  have HK := Lib.hid ((Qs.zero w).box #[.int .u8 (kd : Nat), .int .u32 (ep : Nat), .int .u32 (se : Nat), .int .i64 st, .int .u64 (sv : Nat), .int .u32 (pc : Nat), .int .u32 (pb : Nat), .int .u32 (pn : Nat), .int .u32 (cn : Nat), .bool cl, .slice A l.length c, .int .i64 n] 50)
  have C := HK.out.says
  simp only [sayAll, cellsSay, qB, qW, Nat.reduceAdd, and_true, true_and] at C
  clear hM
  go_enter Try.func24, Try.ntmps24
  go_wp2_with fail
  refine HM.out.mono ?_
  rintro e w1 ⟨rfl, b1⟩
  have HK1 := Lib.hid (HK.out.go b1)
  clear b1
  go_wp2_with fail
  go_ret2
  exact ⟨rfl, HK1.out.top 1⟩

set_option maxHeartbeats 8000000 in
theorem rnenc_yes1 (d : NoD) (A : Option Addr) (c : Nat) (w : World) (hA : Bs w A d.l) (ho : d.ok) (hm : mayN d = true) (hk : d.kd = 1) :
    Calls Try.prog 24 #[.agg (noC d A c)] w fun e w' => ∃ A' c' N, e = .returned (.tuple #[.slice A' N c', .int .i64 0]) ∧ Hid (N = (encN d).length ∧ OwnB w' w.heap.size (.slice A' N c') (encN d) ∧ Below w.heap.size w w') := by
  have hl0 := (mayN_l hm (by omega)).1
  have hM := rnmay_any d A c (w.alloc (.cells (noC d A c) 50)) (hA.below (below_alloc w _)) ho (by rw [hl0]; simp)
  rw [hm] at hM
  have hE := encN_1 d hk hm
  obtain ⟨E, hEE⟩ : ∃ E, E = encN d := ⟨_, rfl⟩
  rw [← hEE] at hE ⊢
  obtain ⟨o1, o2, o3, o4, o5, o6, o7, o8, o9, -, -⟩ := ho
  clear hm hEE hl0
  obtain ⟨kd, ep, se, st, sv, pc, pb, pn, cn, cl, l, n⟩ := d
  simp only at hk
  subst hk
  simp only [noC] at hM hA hE o2 o3 o4 o5 o6 o7 o8 o9 ⊢
  have HE := Lib.hid hE
  have HM := Lib.hid hM
  have HA := Lib.hid hA
  clear hM hA hE
  have u_ep : IntKind.u64.wrap (ep : Int) = ep := by rw [IntKind.wrap_u64]; omega
  have HF0 := Lib.hid (Blk.new w 50 #[.int .u8 1, .int .u32 (ep : Nat), .int .u32 (se : Nat), .int .i64 st, .int .u64 (sv : Nat), .int .u32 (pc : Nat), .int .u32 (pb : Nat), .int .u32 (pn : Nat), .int .u32 (cn : Nat), .bool cl, .slice A l.length c, .int .i64 n])
  have C := blk_says HF0.out
  simp only [cellsSay, Nat.reduceAdd, and_true] at C
  go_enter Try.func24, Try.ntmps24
  go_wp2_with fail
  refine HM.out.mono ?_
  rintro e w1 ⟨rfl, b1⟩
  have HF1 := Lib.hid (Blk.below HF0.out b1 (by simp))
  have HB1 := Lib.hid ((below_alloc w _).trans (b1.mono (by simp)))
  clear C b1 HM HF0
  have C := blk_says HF1.out
  simp only [cellsSay, Nat.reduceAdd, and_true] at C
  go_upto_region 5 with fail
  have HN1 := Lib.hid (Ne.start HF1.out HB1.out 1)
  clear C HF1 HB1
  obtain ⟨W1, hW1⟩ : ∃ W, W = w1.alloc (.cells #[.int .u8 1] 5) := ⟨_, rfl⟩
  have HN : Hid (Ne w W1 #[.int .u8 1, .int .u32 (ep : Nat), .int .u32 (se : Nat), .int .i64 st, .int .u64 (sv : Nat), .int .u32 (pc : Nat), .int .u32 (pb : Nat), .int .u32 (pn : Nat), .int .u32 (cn : Nat), .bool cl, .slice A l.length c, .int .i64 n] 1 (some ⟨w1.heap.size, 0, none⟩) 1 [1]) := by rw [hW1]; exact HN1
  rw [← hW1]
  clear HN1 hW1
  have HNn : Hid ((1 : Nat) ≤ 100) := Lib.hid (by decide)
  have C := blk_says HN.out.fr
  simp only [cellsSay, Nat.reduceAdd, and_true] at C
  have HP := Lib.hid (HN.out.rput ep 4 (by decide) (by omega) (by have := HNn.out; omega))
  go_wp2_with fail
  refine HP.out.mono ?_
  clear HP C
  rintro e W2 ⟨A2, c2, N2, rfl, HR⟩
  have HNn2 : Hid (N2 = 1 + 4) := Lib.hid HR.out.1
  replace HN := Lib.hid HR.out.2.1
  replace HNn : Hid (N2 ≤ 140) := Lib.hid (by have := HNn.out; have := HNn2.out; omega)
  clear HR HNn2
  go_wp2_with fail
  go_ret2
  refine ⟨A2, c2, N2, rfl, Lib.hid ⟨?_, ?_, HN.out.top⟩⟩
  · rw [HE.out]; exact HN.out.len
  · rw [HE.out]; exact HN.out.own.mono (Nat.le_succ _)

end Go.Proofs.Ytpedobpbpomkaaa

/- Layer 11: Encode of the document. -/
set_option linter.unusedSimpArgs false
set_option linter.unusedVariables false
namespace Go.Proofs.Ytpedobpbpomkaaa
open Go.RowKit
set_option maxRecDepth 100000

set_option maxHeartbeats 8000000 in
theorem rnenc_yes2 (d : NoD) (A : Option Addr) (c : Nat) (w : World) (hA : Bs w A d.l) (ho : d.ok) (hm : mayN d = true) (hk : d.kd = 2) :
    Calls Try.prog 24 #[.agg (noC d A c)] w fun e w' => ∃ A' c' N, e = .returned (.tuple #[.slice A' N c', .int .i64 0]) ∧ Hid (N = (encN d).length ∧ OwnB w' w.heap.size (.slice A' N c') (encN d) ∧ Below w.heap.size w w') := by
  have hl0 := (mayN_l hm (by omega)).1
  have hM := rnmay_any d A c (w.alloc (.cells (noC d A c) 50)) (hA.below (below_alloc w _)) ho (by rw [hl0]; simp)
  rw [hm] at hM
  have hE := encN_2 d hk hm
  obtain ⟨E, hEE⟩ : ∃ E, E = encN d := ⟨_, rfl⟩
  rw [← hEE] at hE ⊢
  obtain ⟨o1, o2, o3, o4, o5, o6, o7, o8, o9, -, -⟩ := ho
  clear hm hEE hl0
  obtain ⟨kd, ep, se, st, sv, pc, pb, pn, cn, cl, l, n⟩ := d
  simp only at hk
  subst hk
  simp only [noC] at hM hA hE o2 o3 o4 o5 o6 o7 o8 o9 ⊢
  have HE := Lib.hid hE
  have HM := Lib.hid hM
  have HA := Lib.hid hA
  clear hM hA hE
  have u_se : IntKind.u64.wrap (se : Int) = se := by rw [IntKind.wrap_u64]; omega
  obtain ⟨ts, hts⟩ : ∃ x, x = s64 st := ⟨_, rfl⟩
  have u_st : IntKind.u64.wrap st = (ts : Int) := by rw [u64_s64, hts]
  have hts2 : ts < 18446744073709551616 := by rw [hts]; exact s64_lt st
  rw [← hts] at HE
  clear hts
  have HF0 := Lib.hid (Blk.new w 50 #[.int .u8 2, .int .u32 (ep : Nat), .int .u32 (se : Nat), .int .i64 st, .int .u64 (sv : Nat), .int .u32 (pc : Nat), .int .u32 (pb : Nat), .int .u32 (pn : Nat), .int .u32 (cn : Nat), .bool cl, .slice A l.length c, .int .i64 n])
  have C := blk_says HF0.out
  simp only [cellsSay, Nat.reduceAdd, and_true] at C
  go_enter Try.func24, Try.ntmps24
  go_wp2_with fail
  refine HM.out.mono ?_
  rintro e w1 ⟨rfl, b1⟩
  have HF1 := Lib.hid (Blk.below HF0.out b1 (by simp))
  have HB1 := Lib.hid ((below_alloc w _).trans (b1.mono (by simp)))
  clear C b1 HM HF0
  have C := blk_says HF1.out
  simp only [cellsSay, Nat.reduceAdd, and_true] at C
  go_upto_region 5 with fail
  have HN1 := Lib.hid (Ne.start HF1.out HB1.out 2)
  clear C HF1 HB1
  obtain ⟨W1, hW1⟩ : ∃ W, W = w1.alloc (.cells #[.int .u8 2] 5) := ⟨_, rfl⟩
  have HN : Hid (Ne w W1 #[.int .u8 2, .int .u32 (ep : Nat), .int .u32 (se : Nat), .int .i64 st, .int .u64 (sv : Nat), .int .u32 (pc : Nat), .int .u32 (pb : Nat), .int .u32 (pn : Nat), .int .u32 (cn : Nat), .bool cl, .slice A l.length c, .int .i64 n] 1 (some ⟨w1.heap.size, 0, none⟩) 1 [2]) := by rw [hW1]; exact HN1
  rw [← hW1]
  clear HN1 hW1
  have HNn : Hid ((1 : Nat) ≤ 100) := Lib.hid (by decide)
  have C := blk_says HN.out.fr
  simp only [cellsSay, Nat.reduceAdd, and_true] at C
  have HP := Lib.hid (HN.out.rput se 4 (by decide) (by omega) (by have := HNn.out; omega))
  go_wp2_with fail
  refine HP.out.mono ?_
  clear HP C
  rintro e W2 ⟨A2, c2, N2, rfl, HR⟩
  have HNn2 : Hid (N2 = 1 + 4) := Lib.hid HR.out.1
  replace HN := Lib.hid HR.out.2.1
  replace HNn : Hid (N2 ≤ 140) := Lib.hid (by have := HNn.out; have := HNn2.out; omega)
  clear HR HNn2
  have C := blk_says HN.out.fr
  simp only [cellsSay, Nat.reduceAdd, and_true] at C
  have HP := Lib.hid (HN.out.rput ts 8 (by decide) (by omega) (by have := HNn.out; omega))
  go_wp2_with fail
  refine HP.out.mono ?_
  clear HP C
  rintro e W3 ⟨A3, c3, N3, rfl, HR⟩
  have HNn3 : Hid (N3 = N2 + 8) := Lib.hid HR.out.1
  replace HN := Lib.hid HR.out.2.1
  replace HNn : Hid (N3 ≤ 160) := Lib.hid (by have := HNn.out; have := HNn3.out; omega)
  clear HR HNn3
  have C := blk_says HN.out.fr
  simp only [cellsSay, Nat.reduceAdd, and_true] at C
  have HP := Lib.hid (HN.out.rput sv 8 (by decide) (by omega) (by have := HNn.out; omega))
  go_wp2_with fail
  refine HP.out.mono ?_
  clear HP C
  rintro e W4 ⟨A4, c4, N4, rfl, HR⟩
  have HNn4 : Hid (N4 = N3 + 8) := Lib.hid HR.out.1
  replace HN := Lib.hid HR.out.2.1
  replace HNn : Hid (N4 ≤ 180) := Lib.hid (by have := HNn.out; have := HNn4.out; omega)
  clear HR HNn4
  have C := blk_says HN.out.fr
  simp only [cellsSay, Nat.reduceAdd, and_true] at C
  go_wp2_with fail
  go_ret2
  refine ⟨A4, c4, N4, rfl, Lib.hid ⟨?_, ?_, HN.out.top⟩⟩
  · rw [HE.out]; exact HN.out.len
  · rw [HE.out]; exact HN.out.own.mono (Nat.le_succ _)

end Go.Proofs.Ytpedobpbpomkaaa

/- Layer 11: Encode of the document. -/
set_option linter.unusedSimpArgs false
set_option linter.unusedVariables false
namespace Go.Proofs.Ytpedobpbpomkaaa
open Go.RowKit
set_option maxRecDepth 100000

set_option maxHeartbeats 8000000 in
theorem rnenc_yes3 (d : NoD) (A : Option Addr) (c : Nat) (w : World) (hA : Bs w A d.l) (ho : d.ok) (hm : mayN d = true) (hk : d.kd = 3) :
    Calls Try.prog 24 #[.agg (noC d A c)] w fun e w' => ∃ A' c' N, e = .returned (.tuple #[.slice A' N c', .int .i64 0]) ∧ Hid (N = (encN d).length ∧ OwnB w' w.heap.size (.slice A' N c') (encN d) ∧ Below w.heap.size w w') := by
  have hl0 := (mayN_l hm (by omega)).1
  have hM := rnmay_any d A c (w.alloc (.cells (noC d A c) 50)) (hA.below (below_alloc w _)) ho (by rw [hl0]; simp)
  rw [hm] at hM
  have hE := encN_3 d hk hm
  obtain ⟨E, hEE⟩ : ∃ E, E = encN d := ⟨_, rfl⟩
  rw [← hEE] at hE ⊢
  obtain ⟨o1, o2, o3, o4, o5, o6, o7, o8, o9, -, -⟩ := ho
  clear hm hEE hl0
  obtain ⟨kd, ep, se, st, sv, pc, pb, pn, cn, cl, l, n⟩ := d
  simp only at hk
  subst hk
  simp only [noC] at hM hA hE o2 o3 o4 o5 o6 o7 o8 o9 ⊢
  have HE := Lib.hid hE
  have HM := Lib.hid hM
  have HA := Lib.hid hA
  clear hM hA hE
  have u_se : IntKind.u64.wrap (se : Int) = se := by rw [IntKind.wrap_u64]; omega
  have u_pc : IntKind.u64.wrap (pc : Int) = pc := by rw [IntKind.wrap_u64]; omega
  have u_pb : IntKind.u64.wrap (pb : Int) = pb := by rw [IntKind.wrap_u64]; omega
  have u_pn : IntKind.u64.wrap (pn : Int) = pn := by rw [IntKind.wrap_u64]; omega
  have HF0 := Lib.hid (Blk.new w 50 #[.int .u8 3, .int .u32 (ep : Nat), .int .u32 (se : Nat), .int .i64 st, .int .u64 (sv : Nat), .int .u32 (pc : Nat), .int .u32 (pb : Nat), .int .u32 (pn : Nat), .int .u32 (cn : Nat), .bool cl, .slice A l.length c, .int .i64 n])
  have C := blk_says HF0.out
  simp only [cellsSay, Nat.reduceAdd, and_true] at C
  go_enter Try.func24, Try.ntmps24
  go_wp2_with fail
  refine HM.out.mono ?_
  rintro e w1 ⟨rfl, b1⟩
  have HF1 := Lib.hid (Blk.below HF0.out b1 (by simp))
  have HB1 := Lib.hid ((below_alloc w _).trans (b1.mono (by simp)))
  clear C b1 HM HF0
  have C := blk_says HF1.out
  simp only [cellsSay, Nat.reduceAdd, and_true] at C
  go_upto_region 5 with fail
  have HN1 := Lib.hid (Ne.start HF1.out HB1.out 3)
  clear C HF1 HB1
  obtain ⟨W1, hW1⟩ : ∃ W, W = w1.alloc (.cells #[.int .u8 3] 5) := ⟨_, rfl⟩
  have HN : Hid (Ne w W1 #[.int .u8 3, .int .u32 (ep : Nat), .int .u32 (se : Nat), .int .i64 st, .int .u64 (sv : Nat), .int .u32 (pc : Nat), .int .u32 (pb : Nat), .int .u32 (pn : Nat), .int .u32 (cn : Nat), .bool cl, .slice A l.length c, .int .i64 n] 1 (some ⟨w1.heap.size, 0, none⟩) 1 [3]) := by rw [hW1]; exact HN1
  rw [← hW1]
  clear HN1 hW1
  have HNn : Hid ((1 : Nat) ≤ 100) := Lib.hid (by decide)
  have C := blk_says HN.out.fr
  simp only [cellsSay, Nat.reduceAdd, and_true] at C
  have HP := Lib.hid (HN.out.rput se 4 (by decide) (by omega) (by have := HNn.out; omega))
  go_wp2_with fail
  refine HP.out.mono ?_
  clear HP C
  rintro e W2 ⟨A2, c2, N2, rfl, HR⟩
  have HNn2 : Hid (N2 = 1 + 4) := Lib.hid HR.out.1
  replace HN := Lib.hid HR.out.2.1
  replace HNn : Hid (N2 ≤ 140) := Lib.hid (by have := HNn.out; have := HNn2.out; omega)
  clear HR HNn2
  have C := blk_says HN.out.fr
  simp only [cellsSay, Nat.reduceAdd, and_true] at C
  have HP := Lib.hid (HN.out.place pc pb pn (by omega) (by omega) (by omega) (by have := HNn.out; omega))
  go_wp2_with fail
  refine HP.out.mono ?_
  clear HP C
  rintro e W3 ⟨A3, c3, N3, rfl, HR⟩
  have HNn3 : Hid (N3 = N2 + 12) := Lib.hid HR.out.1
  replace HN := Lib.hid HR.out.2
  replace HNn : Hid (N3 ≤ 160) := Lib.hid (by have := HNn.out; have := HNn3.out; omega)
  clear HR HNn3
  have C := blk_says HN.out.fr
  simp only [cellsSay, Nat.reduceAdd, and_true] at C
  go_wp2_with fail
  go_ret2
  refine ⟨A3, c3, N3, rfl, Lib.hid ⟨?_, ?_, HN.out.top⟩⟩
  · rw [HE.out]; exact HN.out.len
  · rw [HE.out]; exact HN.out.own.mono (Nat.le_succ _)

end Go.Proofs.Ytpedobpbpomkaaa

/- Layer 11: Encode of the document. -/
set_option linter.unusedSimpArgs false
set_option linter.unusedVariables false
namespace Go.Proofs.Ytpedobpbpomkaaa
open Go.RowKit
set_option maxRecDepth 100000

set_option maxHeartbeats 8000000 in
theorem rnenc_yes4 (d : NoD) (A : Option Addr) (c : Nat) (w : World) (hA : Bs w A d.l) (ho : d.ok) (hm : mayN d = true) (hk : d.kd = 4) :
    Calls Try.prog 24 #[.agg (noC d A c)] w fun e w' => ∃ A' c' N, e = .returned (.tuple #[.slice A' N c', .int .i64 0]) ∧ Hid (N = (encN d).length ∧ OwnB w' w.heap.size (.slice A' N c') (encN d) ∧ Below w.heap.size w w') := by
  have h4 := mayN_4 hm hk
  have hM := rnmay_any d A c (w.alloc (.cells (noC d A c) 50)) (hA.below (below_alloc w _)) ho (by omega)
  rw [hm] at hM
  have hE := encN_4 d hk
  obtain ⟨E, hEE⟩ : ∃ E, E = encN d := ⟨_, rfl⟩
  rw [← hEE] at hE ⊢
  obtain ⟨o1, o2, o3, o4, o5, o6, o7, o8, o9, -, -⟩ := ho
  clear hm hEE
  obtain ⟨kd, ep, se, st, sv, pc, pb, pn, cn, cl, l, n⟩ := d
  simp only at hk
  subst hk
  simp only [noC] at h4 hM hA hE o3 o6 o7 o8 o9 ⊢
  obtain ⟨-, -, -, -, hn0, hn1, hl5⟩ := h4
  obtain ⟨m, rfl⟩ := Int.eq_ofNat_of_zero_le (show 0 ≤ n by omega)
  simp only [Int.toNat_natCast] at hE
  have u9 : IntKind.u64.wrap (m : Int) = m := by rw [IntKind.wrap_u64]; omega
  have HE := Lib.hid hE
  have HM := Lib.hid hM
  have HA := Lib.hid hA
  clear hM hA hE hn0
  have u_se : IntKind.u64.wrap (se : Int) = se := by rw [IntKind.wrap_u64]; omega
  have u_pc : IntKind.u64.wrap (pc : Int) = pc := by rw [IntKind.wrap_u64]; omega
  have u_pb : IntKind.u64.wrap (pb : Int) = pb := by rw [IntKind.wrap_u64]; omega
  have u_pn : IntKind.u64.wrap (pn : Int) = pn := by rw [IntKind.wrap_u64]; omega
  have u_cn : IntKind.u64.wrap (cn : Int) = cn := by rw [IntKind.wrap_u64]; omega
  have HF0 := Lib.hid (Blk.new w 50 #[.int .u8 4, .int .u32 (ep : Nat), .int .u32 (se : Nat), .int .i64 st, .int .u64 (sv : Nat), .int .u32 (pc : Nat), .int .u32 (pb : Nat), .int .u32 (pn : Nat), .int .u32 (cn : Nat), .bool cl, .slice A l.length c, .int .i64 (m : Nat)])
  have C := blk_says HF0.out
  simp only [cellsSay, Nat.reduceAdd, and_true] at C
  obtain ⟨cb, hcb⟩ : ∃ x : UInt8, x = if cl then 1 else 0 := ⟨_, rfl⟩
  rw [← hcb] at HE
  have HCb := Lib.hid hcb
  clear hcb
  go_enter Try.func24, Try.ntmps24
  go_wp2_with fail
  refine HM.out.mono ?_
  rintro e w1 ⟨rfl, b1⟩
  have HF1 := Lib.hid (Blk.below HF0.out b1 (by simp))
  have HB1 := Lib.hid ((below_alloc w _).trans (b1.mono (by simp)))
  clear C b1 HM HF0
  have C := blk_says HF1.out
  simp only [cellsSay, Nat.reduceAdd, and_true] at C
  go_upto_region 5 with fail
  have HN1 := Lib.hid (Ne.start HF1.out HB1.out 4)
  clear C HF1 HB1
  obtain ⟨W1, hW1⟩ : ∃ W, W = w1.alloc (.cells #[.int .u8 4] 5) := ⟨_, rfl⟩
  have HN : Hid (Ne w W1 #[.int .u8 4, .int .u32 (ep : Nat), .int .u32 (se : Nat), .int .i64 st, .int .u64 (sv : Nat), .int .u32 (pc : Nat), .int .u32 (pb : Nat), .int .u32 (pn : Nat), .int .u32 (cn : Nat), .bool cl, .slice A l.length c, .int .i64 (m : Nat)] 1 (some ⟨w1.heap.size, 0, none⟩) 1 [4]) := by rw [hW1]; exact HN1
  rw [← hW1]
  clear HN1 hW1
  have HNn : Hid ((1 : Nat) ≤ 100) := Lib.hid (by decide)
  have C := blk_says HN.out.fr
  simp only [cellsSay, Nat.reduceAdd, and_true] at C
  have HP := Lib.hid (HN.out.rput se 4 (by decide) (by omega) (by have := HNn.out; omega))
  go_wp2_with fail
  refine HP.out.mono ?_
  clear HP C
  rintro e W2 ⟨A2, c2, N2, rfl, HR⟩
  have HNn2 : Hid (N2 = 1 + 4) := Lib.hid HR.out.1
  replace HN := Lib.hid HR.out.2.1
  replace HNn : Hid (N2 ≤ 140) := Lib.hid (by have := HNn.out; have := HNn2.out; omega)
  clear HR HNn2
  have C := blk_says HN.out.fr
  simp only [cellsSay, Nat.reduceAdd, and_true] at C
  have HP := Lib.hid (HN.out.place pc pb pn (by omega) (by omega) (by omega) (by have := HNn.out; omega))
  go_wp2_with fail
  refine HP.out.mono ?_
  clear HP C
  rintro e W3 ⟨A3, c3, N3, rfl, HR⟩
  have HNn3 : Hid (N3 = N2 + 12) := Lib.hid HR.out.1
  replace HN := Lib.hid HR.out.2
  replace HNn : Hid (N3 ≤ 160) := Lib.hid (by have := HNn.out; have := HNn3.out; omega)
  clear HR HNn3
  cases cl
  rotate_left
  · skip
    have C := blk_says HN.out.fr
    simp only [cellsSay, Nat.reduceAdd, and_true] at C
    have HP := Lib.hid (HN.out.rput cn 4 (by decide) (by omega) (by have := HNn.out; omega))
    go_wp2_with fail
    refine HP.out.mono ?_
    clear HP C
    rintro e W4 ⟨A4, c4, N4, rfl, HR⟩
    have HNn4 : Hid (N4 = N3 + 4) := Lib.hid HR.out.1
    replace HN := Lib.hid HR.out.2.1
    replace HNn : Hid (N4 ≤ 180) := Lib.hid (by have := HNn.out; have := HNn4.out; omega)
    clear HR HNn4
    obtain ⟨M, hM⟩ : ∃ M : List UInt8, M = [4] ++ be 4 se ++ be 4 pc ++ be 4 pb ++ be 4 pn ++ be 4 cn := ⟨_, rfl⟩
    have HM := Lib.hid hM
    rw [← hM] at HN
    clear hM
    have C := blk_says HN.out.fr
    simp only [cellsSay, Nat.reduceAdd, and_true] at C
    obtain rfl : cb = 1 := HCb.out
    go_upto_region 19 with (at_builtin; go_must (refine appBL _ rfl (.tmp 56) (.tmp 58) rfl (w.heap.size + 1) _ M rfl (HN.out.own.alloc _) W4.heap.size 1 rfl (byte_one W4) (by have := HN.out.len; have := HNn.out; omega) (by have := HN.out.siz; simp; omega) ?_); intro g7 c7 w7 hown7 hg7 hl7 hz7)
    obtain ⟨N7, hN7⟩ : ∃ n, n = M.length + 1 := ⟨_, rfl⟩
    rw [← hN7] at hown7 ⊢
    have HN7 := Lib.hid ((HN.out.go (below_alloc _ _)).gt ((Gt.refl _ _).one hg7 hl7) hown7 (by rw [hN7]; simp))
    have hNn7 : N7 ≤ 250 := by have := HN.out.len; have := HNn.out; omega
    replace HN := HN7
    replace HNn : Hid (N7 ≤ 250) := Lib.hid hNn7
    clear HN7 hown7 hg7 hl7 hz7 hN7 hNn7 C
    have C := blk_says HN.out.fr
    simp only [cellsSay, Nat.reduceAdd, and_true] at C
    have HP := Lib.hid (HN.out.rput m 2 (by decide) (by omega) (by have := HNn.out; omega))
    go_wp2_with fail
    refine HP.out.mono ?_
    clear HP C
    rintro e W8 ⟨A8, c8, N8, rfl, HR⟩
    have HNn8 : Hid (N8 = N7 + 2) := Lib.hid HR.out.1
    replace HN := Lib.hid HR.out.2.1
    replace HNn : Hid (N8 ≤ 260) := Lib.hid (by have := HNn.out; have := HNn8.out; omega)
    clear HR HNn8
    obtain ⟨M8, hM⟩ : ∃ M8 : List UInt8, M8 = M ++ [1] ++ be 2 m := ⟨_, rfl⟩
    have HM8 := Lib.hid hM
    rw [← hM] at HN
    clear hM
    have C := blk_says HN.out.fr
    simp only [cellsSay, Nat.reduceAdd, and_true] at C
    go_wp2_with (at_builtin; go_must (refine appAllL _ rfl (.tmp 66) (.tmp 69) rfl (w.heap.size + 1) _ M8 rfl HN.out.own A c l rfl (HA.out.below HN.out.top) (by have := HN.out.len; have := HNn.out; omega) HN.out.siz ?_); intro A9 c9 w9 hown9 hg9 hl9)
    go_ret2
    have HN9 := HN.out.gt ((Gt.refl _ _).app hg9 hl9) hown9 (by simp)
    have hEE : E = M8 ++ l := by rw [HE.out, HM8.out, HM.out]
    refine ⟨A9, c9, M8.length + l.length, rfl, Lib.hid ⟨?_, ?_, HN9.top⟩⟩
    · rw [hEE]; exact HN9.len
    · rw [hEE]; exact HN9.own.mono (Nat.le_succ _)
  · skip
    have C := blk_says HN.out.fr
    simp only [cellsSay, Nat.reduceAdd, and_true] at C
    have HP := Lib.hid (HN.out.rput cn 4 (by decide) (by omega) (by have := HNn.out; omega))
    go_wp2_with fail
    refine HP.out.mono ?_
    clear HP C
    rintro e W4 ⟨A4, c4, N4, rfl, HR⟩
    have HNn4 : Hid (N4 = N3 + 4) := Lib.hid HR.out.1
    replace HN := Lib.hid HR.out.2.1
    replace HNn : Hid (N4 ≤ 180) := Lib.hid (by have := HNn.out; have := HNn4.out; omega)
    clear HR HNn4
    obtain ⟨M, hM⟩ : ∃ M : List UInt8, M = [4] ++ be 4 se ++ be 4 pc ++ be 4 pb ++ be 4 pn ++ be 4 cn := ⟨_, rfl⟩
    have HM := Lib.hid hM
    rw [← hM] at HN
    clear hM
    have C := blk_says HN.out.fr
    simp only [cellsSay, Nat.reduceAdd, and_true] at C
    obtain rfl : cb = 0 := HCb.out
    go_upto_region 19 with (at_builtin; go_must (refine appBL _ rfl (.tmp 56) (.tmp 58) rfl (w.heap.size + 1) _ M rfl (HN.out.own.alloc _) W4.heap.size 0 rfl (byte_zero W4) (by have := HN.out.len; have := HNn.out; omega) (by have := HN.out.siz; simp; omega) ?_); intro g7 c7 w7 hown7 hg7 hl7 hz7)
    obtain ⟨N7, hN7⟩ : ∃ n, n = M.length + 1 := ⟨_, rfl⟩
    rw [← hN7] at hown7 ⊢
    have HN7 := Lib.hid ((HN.out.go (below_alloc _ _)).gt ((Gt.refl _ _).one hg7 hl7) hown7 (by rw [hN7]; simp))
    have hNn7 : N7 ≤ 250 := by have := HN.out.len; have := HNn.out; omega
    replace HN := HN7
    replace HNn : Hid (N7 ≤ 250) := Lib.hid hNn7
    clear HN7 hown7 hg7 hl7 hz7 hN7 hNn7 C
    have C := blk_says HN.out.fr
    simp only [cellsSay, Nat.reduceAdd, and_true] at C
    have HP := Lib.hid (HN.out.rput m 2 (by decide) (by omega) (by have := HNn.out; omega))
    go_wp2_with fail
    refine HP.out.mono ?_
    clear HP C
    rintro e W8 ⟨A8, c8, N8, rfl, HR⟩
    have HNn8 : Hid (N8 = N7 + 2) := Lib.hid HR.out.1
    replace HN := Lib.hid HR.out.2.1
    replace HNn : Hid (N8 ≤ 260) := Lib.hid (by have := HNn.out; have := HNn8.out; omega)
    clear HR HNn8
    obtain ⟨M8, hM⟩ : ∃ M8 : List UInt8, M8 = M ++ [0] ++ be 2 m := ⟨_, rfl⟩
    have HM8 := Lib.hid hM
    rw [← hM] at HN
    clear hM
    have C := blk_says HN.out.fr
    simp only [cellsSay, Nat.reduceAdd, and_true] at C
    go_wp2_with (at_builtin; go_must (refine appAllL _ rfl (.tmp 66) (.tmp 69) rfl (w.heap.size + 1) _ M8 rfl HN.out.own A c l rfl (HA.out.below HN.out.top) (by have := HN.out.len; have := HNn.out; omega) HN.out.siz ?_); intro A9 c9 w9 hown9 hg9 hl9)
    go_ret2
    have HN9 := HN.out.gt ((Gt.refl _ _).app hg9 hl9) hown9 (by simp)
    have hEE : E = M8 ++ l := by rw [HE.out, HM8.out, HM.out]
    refine ⟨A9, c9, M8.length + l.length, rfl, Lib.hid ⟨?_, ?_, HN9.top⟩⟩
    · rw [hEE]; exact HN9.len
    · rw [hEE]; exact HN9.own.mono (Nat.le_succ _)

end Go.Proofs.Ytpedobpbpomkaaa

/- Layer 11: Encode of the program. -/
set_option linter.unusedSimpArgs false
set_option linter.unusedVariables false
namespace Go.Proofs.Ytpedobpbpomkaaa
open Go.RowKit
set_option maxRecDepth 100000

set_option maxHeartbeats 2000000 in
theorem nenc_no (d : NoD) (A : Option Addr) (c : Nat) (w : World) (hA : Bs w A d.l) (ho : d.ok) (hL : d.l.length ≤ 100000) (hm : mayN d = false) :
    Calls Try.prog 23 #[.agg (noC d A c)] w fun e w' => e = .returned (.tuple #[.slice none 0 0, .int .u16 110]) ∧ Below w.heap.size w w' := by
  have hM := nmay_any d A c (w.alloc (.cells (noC d A c) 50)) (hA.below (below_alloc w _)) ho hL
  rw [hm] at hM
  clear hA ho hm
  obtain ⟨kd, ep, se, st, sv, pc, pb, pn, cn, cl, l, n⟩ := d
  simp only [noC] at hM ⊢
  have HM := Lib.hid hM
  have HK := Lib.hid ((Qs.zero w).box #[.int .u8 (kd : Nat), .int .u32 (ep : Nat), .int .u32 (se : Nat), .int .i64 st, .int .u64 (sv : Nat), .int .u32 (pc : Nat), .int .u32 (pb : Nat), .int .u32 (pn : Nat), .int .u32 (cn : Nat), .bool cl, .slice A l.length c, .int .i64 n] 50)
  have C := HK.out.says
  simp only [sayAll, cellsSay, qB, qW, Nat.reduceAdd, and_true, true_and] at C
  clear hM
  go_enter Try.func23, Try.ntmps23
  go_wp2_with fail
  refine HM.out.mono ?_
  rintro e w1 ⟨rfl, b1⟩
  have HK1 := Lib.hid (HK.out.go b1)
  clear b1
  go_wp2_with fail
  go_ret2
  exact ⟨rfl, HK1.out.top 1⟩

set_option maxHeartbeats 8000000 in
theorem nenc_yes1 (d : NoD) (A : Option Addr) (c : Nat) (w : World) (hA : Bs w A d.l) (ho : d.ok) (hm : mayN d = true) (hk : d.kd = 1) :
    Calls Try.prog 23 #[.agg (noC d A c)] w fun e w' => ∃ A' c' N, e = .returned (.tuple #[.slice A' N c', .int .u16 0]) ∧ Hid (N = (encN d).length ∧ OwnB w' w.heap.size (.slice A' N c') (encN d) ∧ Below w.heap.size w w') := by
  have hl0 := (mayN_l hm (by omega)).1
  have hM := nmay_any d A c (w.alloc (.cells (noC d A c) 50)) (hA.below (below_alloc w _)) ho (by rw [hl0]; simp)
  rw [hm] at hM
  have hE := encN_1 d hk hm
  obtain ⟨E, hEE⟩ : ∃ E, E = encN d := ⟨_, rfl⟩
  rw [← hEE] at hE ⊢
  obtain ⟨o1, o2, o3, o4, o5, o6, o7, o8, o9, -, -⟩ := ho
  clear hm hEE hl0
  obtain ⟨kd, ep, se, st, sv, pc, pb, pn, cn, cl, l, n⟩ := d
  simp only at hk
  subst hk
  simp only [noC] at hM hA hE o2 o3 o4 o5 o6 o7 o8 o9 ⊢
  have HE := Lib.hid hE
  have HM := Lib.hid hM
  have HA := Lib.hid hA
  clear hM hA hE
  have u_ep : IntKind.u64.wrap (ep : Int) = ep := by rw [IntKind.wrap_u64]; omega
  have HF0 := Lib.hid (Blk.new w 50 #[.int .u8 1, .int .u32 (ep : Nat), .int .u32 (se : Nat), .int .i64 st, .int .u64 (sv : Nat), .int .u32 (pc : Nat), .int .u32 (pb : Nat), .int .u32 (pn : Nat), .int .u32 (cn : Nat), .bool cl, .slice A l.length c, .int .i64 n])
  have C := blk_says HF0.out
  simp only [cellsSay, Nat.reduceAdd, and_true] at C
  go_enter Try.func23, Try.ntmps23
  go_wp2_with fail
  refine HM.out.mono ?_
  rintro e w1 ⟨rfl, b1⟩
  have HF1 := Lib.hid (Blk.below HF0.out b1 (by simp))
  have HB1 := Lib.hid ((below_alloc w _).trans (b1.mono (by simp)))
  clear C b1 HM HF0
  have C := blk_says HF1.out
  simp only [cellsSay, Nat.reduceAdd, and_true] at C
  go_upto_region 4 with fail
  have HN1 := Lib.hid (Ne.start HF1.out HB1.out 1)
  clear C HF1 HB1
  obtain ⟨W1, hW1⟩ : ∃ W, W = w1.alloc (.cells #[.int .u8 1] 5) := ⟨_, rfl⟩
  have HN : Hid (Ne w W1 #[.int .u8 1, .int .u32 (ep : Nat), .int .u32 (se : Nat), .int .i64 st, .int .u64 (sv : Nat), .int .u32 (pc : Nat), .int .u32 (pb : Nat), .int .u32 (pn : Nat), .int .u32 (cn : Nat), .bool cl, .slice A l.length c, .int .i64 n] 1 (some ⟨w1.heap.size, 0, none⟩) 1 [1]) := by rw [hW1]; exact HN1
  rw [← hW1]
  clear HN1 hW1
  have HNn : Hid ((1 : Nat) ≤ 100) := Lib.hid (by decide)
  have C := blk_says HN.out.fr
  simp only [cellsSay, Nat.reduceAdd, and_true] at C
  have HP := Lib.hid (HN.out.nput ep 4 (by decide) (by omega) (by have := HNn.out; omega))
  go_wp2_with fail
  refine HP.out.mono ?_
  clear HP C
  rintro e W2 ⟨A2, c2, N2, rfl, HR⟩
  have HNn2 : Hid (N2 = 1 + 4) := Lib.hid HR.out.1
  replace HN := Lib.hid HR.out.2.1
  replace HNn : Hid (N2 ≤ 140) := Lib.hid (by have := HNn.out; have := HNn2.out; omega)
  clear HR HNn2
  go_wp2_with fail
  go_ret2
  refine ⟨A2, c2, N2, rfl, Lib.hid ⟨?_, ?_, HN.out.top⟩⟩
  · rw [HE.out]; exact HN.out.len
  · rw [HE.out]; exact HN.out.own.mono (Nat.le_succ _)

end Go.Proofs.Ytpedobpbpomkaaa

/- Layer 11: Encode of the program. -/
set_option linter.unusedSimpArgs false
set_option linter.unusedVariables false
namespace Go.Proofs.Ytpedobpbpomkaaa
open Go.RowKit
set_option maxRecDepth 100000

set_option maxHeartbeats 8000000 in
theorem nenc_yes2 (d : NoD) (A : Option Addr) (c : Nat) (w : World) (hA : Bs w A d.l) (ho : d.ok) (hm : mayN d = true) (hk : d.kd = 2) :
    Calls Try.prog 23 #[.agg (noC d A c)] w fun e w' => ∃ A' c' N, e = .returned (.tuple #[.slice A' N c', .int .u16 0]) ∧ Hid (N = (encN d).length ∧ OwnB w' w.heap.size (.slice A' N c') (encN d) ∧ Below w.heap.size w w') := by
  have hl0 := (mayN_l hm (by omega)).1
  have hM := nmay_any d A c (w.alloc (.cells (noC d A c) 50)) (hA.below (below_alloc w _)) ho (by rw [hl0]; simp)
  rw [hm] at hM
  have hE := encN_2 d hk hm
  obtain ⟨E, hEE⟩ : ∃ E, E = encN d := ⟨_, rfl⟩
  rw [← hEE] at hE ⊢
  obtain ⟨o1, o2, o3, o4, o5, o6, o7, o8, o9, -, -⟩ := ho
  clear hm hEE hl0
  obtain ⟨kd, ep, se, st, sv, pc, pb, pn, cn, cl, l, n⟩ := d
  simp only at hk
  subst hk
  simp only [noC] at hM hA hE o2 o3 o4 o5 o6 o7 o8 o9 ⊢
  have HE := Lib.hid hE
  have HM := Lib.hid hM
  have HA := Lib.hid hA
  clear hM hA hE
  have u_se : IntKind.u64.wrap (se : Int) = se := by rw [IntKind.wrap_u64]; omega
  obtain ⟨ts, hts⟩ : ∃ x, x = s64 st := ⟨_, rfl⟩
  have u_st : IntKind.u64.wrap st = (ts : Int) := by rw [u64_s64, hts]
  have hts2 : ts < 18446744073709551616 := by rw [hts]; exact s64_lt st
  rw [← hts] at HE
  clear hts
  have HF0 := Lib.hid (Blk.new w 50 #[.int .u8 2, .int .u32 (ep : Nat), .int .u32 (se : Nat), .int .i64 st, .int .u64 (sv : Nat), .int .u32 (pc : Nat), .int .u32 (pb : Nat), .int .u32 (pn : Nat), .int .u32 (cn : Nat), .bool cl, .slice A l.length c, .int .i64 n])
  have C := blk_says HF0.out
  simp only [cellsSay, Nat.reduceAdd, and_true] at C
  go_enter Try.func23, Try.ntmps23
  go_wp2_with fail
  refine HM.out.mono ?_
  rintro e w1 ⟨rfl, b1⟩
  have HF1 := Lib.hid (Blk.below HF0.out b1 (by simp))
  have HB1 := Lib.hid ((below_alloc w _).trans (b1.mono (by simp)))
  clear C b1 HM HF0
  have C := blk_says HF1.out
  simp only [cellsSay, Nat.reduceAdd, and_true] at C
  go_upto_region 4 with fail
  have HN1 := Lib.hid (Ne.start HF1.out HB1.out 2)
  clear C HF1 HB1
  obtain ⟨W1, hW1⟩ : ∃ W, W = w1.alloc (.cells #[.int .u8 2] 5) := ⟨_, rfl⟩
  have HN : Hid (Ne w W1 #[.int .u8 2, .int .u32 (ep : Nat), .int .u32 (se : Nat), .int .i64 st, .int .u64 (sv : Nat), .int .u32 (pc : Nat), .int .u32 (pb : Nat), .int .u32 (pn : Nat), .int .u32 (cn : Nat), .bool cl, .slice A l.length c, .int .i64 n] 1 (some ⟨w1.heap.size, 0, none⟩) 1 [2]) := by rw [hW1]; exact HN1
  rw [← hW1]
  clear HN1 hW1
  have HNn : Hid ((1 : Nat) ≤ 100) := Lib.hid (by decide)
  have C := blk_says HN.out.fr
  simp only [cellsSay, Nat.reduceAdd, and_true] at C
  have HP := Lib.hid (HN.out.nput se 4 (by decide) (by omega) (by have := HNn.out; omega))
  go_wp2_with fail
  refine HP.out.mono ?_
  clear HP C
  rintro e W2 ⟨A2, c2, N2, rfl, HR⟩
  have HNn2 : Hid (N2 = 1 + 4) := Lib.hid HR.out.1
  replace HN := Lib.hid HR.out.2.1
  replace HNn : Hid (N2 ≤ 140) := Lib.hid (by have := HNn.out; have := HNn2.out; omega)
  clear HR HNn2
  have C := blk_says HN.out.fr
  simp only [cellsSay, Nat.reduceAdd, and_true] at C
  have HP := Lib.hid (HN.out.nput ts 8 (by decide) (by omega) (by have := HNn.out; omega))
  go_wp2_with fail
  refine HP.out.mono ?_
  clear HP C
  rintro e W3 ⟨A3, c3, N3, rfl, HR⟩
  have HNn3 : Hid (N3 = N2 + 8) := Lib.hid HR.out.1
  replace HN := Lib.hid HR.out.2.1
  replace HNn : Hid (N3 ≤ 160) := Lib.hid (by have := HNn.out; have := HNn3.out; omega)
  clear HR HNn3
  have C := blk_says HN.out.fr
  simp only [cellsSay, Nat.reduceAdd, and_true] at C
  have HP := Lib.hid (HN.out.nput sv 8 (by decide) (by omega) (by have := HNn.out; omega))
  go_wp2_with fail
  refine HP.out.mono ?_
  clear HP C
  rintro e W4 ⟨A4, c4, N4, rfl, HR⟩
  have HNn4 : Hid (N4 = N3 + 8) := Lib.hid HR.out.1
  replace HN := Lib.hid HR.out.2.1
  replace HNn : Hid (N4 ≤ 180) := Lib.hid (by have := HNn.out; have := HNn4.out; omega)
  clear HR HNn4
  have C := blk_says HN.out.fr
  simp only [cellsSay, Nat.reduceAdd, and_true] at C
  go_wp2_with fail
  go_ret2
  refine ⟨A4, c4, N4, rfl, Lib.hid ⟨?_, ?_, HN.out.top⟩⟩
  · rw [HE.out]; exact HN.out.len
  · rw [HE.out]; exact HN.out.own.mono (Nat.le_succ _)

end Go.Proofs.Ytpedobpbpomkaaa

/- Layer 11: Encode of the program. -/
set_option linter.unusedSimpArgs false
set_option linter.unusedVariables false
namespace Go.Proofs.Ytpedobpbpomkaaa
open Go.RowKit
set_option maxRecDepth 100000

set_option maxHeartbeats 8000000 in
theorem nenc_yes3 (d : NoD) (A : Option Addr) (c : Nat) (w : World) (hA : Bs w A d.l) (ho : d.ok) (hm : mayN d = true) (hk : d.kd = 3) :
    Calls Try.prog 23 #[.agg (noC d A c)] w fun e w' => ∃ A' c' N, e = .returned (.tuple #[.slice A' N c', .int .u16 0]) ∧ Hid (N = (encN d).length ∧ OwnB w' w.heap.size (.slice A' N c') (encN d) ∧ Below w.heap.size w w') := by
  have hl0 := (mayN_l hm (by omega)).1
  have hM := nmay_any d A c (w.alloc (.cells (noC d A c) 50)) (hA.below (below_alloc w _)) ho (by rw [hl0]; simp)
  rw [hm] at hM
  have hE := encN_3 d hk hm
  obtain ⟨E, hEE⟩ : ∃ E, E = encN d := ⟨_, rfl⟩
  rw [← hEE] at hE ⊢
  obtain ⟨o1, o2, o3, o4, o5, o6, o7, o8, o9, -, -⟩ := ho
  clear hm hEE hl0
  obtain ⟨kd, ep, se, st, sv, pc, pb, pn, cn, cl, l, n⟩ := d
  simp only at hk
  subst hk
  simp only [noC] at hM hA hE o2 o3 o4 o5 o6 o7 o8 o9 ⊢
  have HE := Lib.hid hE
  have HM := Lib.hid hM
  have HA := Lib.hid hA
  clear hM hA hE
  have u_se : IntKind.u64.wrap (se : Int) = se := by rw [IntKind.wrap_u64]; omega
  have u_pc : IntKind.u64.wrap (pc : Int) = pc := by rw [IntKind.wrap_u64]; omega
  have u_pb : IntKind.u64.wrap (pb : Int) = pb := by rw [IntKind.wrap_u64]; omega
  have u_pn : IntKind.u64.wrap (pn : Int) = pn := by rw [IntKind.wrap_u64]; omega
  have HF0 := Lib.hid (Blk.new w 50 #[.int .u8 3, .int .u32 (ep : Nat), .int .u32 (se : Nat), .int .i64 st, .int .u64 (sv : Nat), .int .u32 (pc : Nat), .int .u32 (pb : Nat), .int .u32 (pn : Nat), .int .u32 (cn : Nat), .bool cl, .slice A l.length c, .int .i64 n])
  have C := blk_says HF0.out
  simp only [cellsSay, Nat.reduceAdd, and_true] at C
  go_enter Try.func23, Try.ntmps23
  go_wp2_with fail
  refine HM.out.mono ?_
  rintro e w1 ⟨rfl, b1⟩
  have HF1 := Lib.hid (Blk.below HF0.out b1 (by simp))
  have HB1 := Lib.hid ((below_alloc w _).trans (b1.mono (by simp)))
  clear C b1 HM HF0
  have C := blk_says HF1.out
  simp only [cellsSay, Nat.reduceAdd, and_true] at C
  go_upto_region 4 with fail
  have HN1 := Lib.hid (Ne.start HF1.out HB1.out 3)
  clear C HF1 HB1
  obtain ⟨W1, hW1⟩ : ∃ W, W = w1.alloc (.cells #[.int .u8 3] 5) := ⟨_, rfl⟩
  have HN : Hid (Ne w W1 #[.int .u8 3, .int .u32 (ep : Nat), .int .u32 (se : Nat), .int .i64 st, .int .u64 (sv : Nat), .int .u32 (pc : Nat), .int .u32 (pb : Nat), .int .u32 (pn : Nat), .int .u32 (cn : Nat), .bool cl, .slice A l.length c, .int .i64 n] 1 (some ⟨w1.heap.size, 0, none⟩) 1 [3]) := by rw [hW1]; exact HN1
  rw [← hW1]
  clear HN1 hW1
  have HNn : Hid ((1 : Nat) ≤ 100) := Lib.hid (by decide)
  have C := blk_says HN.out.fr
  simp only [cellsSay, Nat.reduceAdd, and_true] at C
  have HP := Lib.hid (HN.out.nput se 4 (by decide) (by omega) (by have := HNn.out; omega))
  go_wp2_with fail
  refine HP.out.mono ?_
  clear HP C
  rintro e W2 ⟨A2, c2, N2, rfl, HR⟩
  have HNn2 : Hid (N2 = 1 + 4) := Lib.hid HR.out.1
  replace HN := Lib.hid HR.out.2.1
  replace HNn : Hid (N2 ≤ 140) := Lib.hid (by have := HNn.out; have := HNn2.out; omega)
  clear HR HNn2
  have C := blk_says HN.out.fr
  simp only [cellsSay, Nat.reduceAdd, and_true] at C
  go_wp2_with fail
  have hq2 : (Value.slice A2 N2 c2).ownBlock ≠ some W2.heap.size := fun e => Nat.lt_irrefl _ (World.ownsRow.lt HN.out.own _ e).2
  obtain ⟨W3, hW3⟩ : ∃ W, W = W2.alloc (.cells #[.int .u32 (pc : Nat), .int .u32 (pb : Nat), .int .u32 (pn : Nat)] 22) := ⟨_, rfl⟩
  rw [← hW3]
  have HR0 : Hid (Ne w W3 #[.int .u8 3, .int .u32 (ep : Nat), .int .u32 (se : Nat), .int .i64 st, .int .u64 (sv : Nat), .int .u32 (pc : Nat), .int .u32 (pb : Nat), .int .u32 (pn : Nat), .int .u32 (cn : Nat), .bool cl, .slice A l.length c, .int .i64 n] N2 A2 c2 ([3] ++ be 4 se) ∧ Blk W3 W2.heap.size 22 #[.int .u32 (pc : Nat), .int .u32 (pb : Nat), .int .u32 (pn : Nat)] ∧ (Value.slice A2 N2 c2).ownBlock ≠ some W2.heap.size ∧ N2 ≤ 200) := Lib.hid (by rw [hW3]; exact ⟨HN.out.go (below_alloc _ _), Blk.new _ _ _, hq2, by have := HNn.out; omega⟩)
  obtain ⟨q, hq⟩ : ∃ q, q = W2.heap.size := ⟨_, rfl⟩
  rw [← hq] at HR0 ⊢
  clear hq hW3 hq2 HN HNn C
  go_loopw [4, 52] (fun s4 s52 wr => ∃ (k N : Nat) (A2 : Option Addr) (c2 : Nat) (M : List UInt8), k ≤ 3 ∧ s52 = .int .i64 k ∧ s4 = .slice A2 N c2 ∧ Hid (Ne w wr #[.int .u8 3, .int .u32 (ep : Nat), .int .u32 (se : Nat), .int .i64 st, .int .u64 (sv : Nat), .int .u32 (pc : Nat), .int .u32 (pb : Nat), .int .u32 (pn : Nat), .int .u32 (cn : Nat), .bool cl, .slice A l.length c, .int .i64 n] N A2 c2 M ∧ Blk wr q 22 #[.int .u32 (pc : Nat), .int .u32 (pb : Nat), .int .u32 (pn : Nat)] ∧ (Value.slice A2 N c2).ownBlock ≠ some q ∧ N ≤ 200 + 4 * k ∧ M = [3] ++ be 4 se ++ ([pc, pb, pn].take k).flatMap (be 4)))
    (fun _ s52 _ => 3 - (intOf s52).toNat)
  case atStart => exact ⟨0, N2, A2, c2, _, by omega, rfl, rfl, Lib.hid ⟨HR0.out.1, HR0.out.2.1, HR0.out.2.2.1, HR0.out.2.2.2, by simp⟩⟩
  case round =>
    obtain ⟨k, N3, A3, c3, M3, hk, rfl, rfl, HR⟩ := hrel
    clear HR0
    by_cases hk0 : k = 0
    · subst hk0
      have C := blk_says HR.out.2.1
      simp only [cellsSay, Nat.reduceAdd, and_true] at C
      have HP := Lib.hid (HR.out.1.nput pc 4 (by decide) (by omega) (by have := HR.out.2.2.2.1; omega))
      go_wp2_with fail
      refine HP.out.mono ?_
      clear HP C
      rintro e W4 ⟨A4, c4, N4, rfl, HQ⟩
      have hB := HQ.out.2.2.blk HR.out.2.1 HR.out.2.2.1
      have HB := Lib.hid hB
      clear hB
      go_wp2_with fail
      go_roundw
      case rel => exact ⟨1, N4, A4, c4, _, by omega, rfl, rfl, Lib.hid ⟨HQ.out.2.1, HB.out.1, HB.out.2, by have := HQ.out.1; have := HR.out.2.2.2.1; omega, by rw [HR.out.2.2.2.2]; simp⟩⟩
      case measure => simp [intOf]
    by_cases hk1 : k = 1
    · subst hk1
      clear hk0
      have C := blk_says HR.out.2.1
      simp only [cellsSay, Nat.reduceAdd, and_true] at C
      have HP := Lib.hid (HR.out.1.nput pb 4 (by decide) (by omega) (by have := HR.out.2.2.2.1; omega))
      go_wp2_with fail
      refine HP.out.mono ?_
      clear HP C
      rintro e W4 ⟨A4, c4, N4, rfl, HQ⟩
      have hB := HQ.out.2.2.blk HR.out.2.1 HR.out.2.2.1
      have HB := Lib.hid hB
      clear hB
      go_wp2_with fail
      go_roundw
      case rel => exact ⟨2, N4, A4, c4, _, by omega, rfl, rfl, Lib.hid ⟨HQ.out.2.1, HB.out.1, HB.out.2, by have := HQ.out.1; have := HR.out.2.2.2.1; omega, by rw [HR.out.2.2.2.2]; simp⟩⟩
      case measure => simp [intOf]
    by_cases hk2 : k = 2
    · subst hk2
      clear hk0 hk1
      have C := blk_says HR.out.2.1
      simp only [cellsSay, Nat.reduceAdd, and_true] at C
      have HP := Lib.hid (HR.out.1.nput pn 4 (by decide) (by omega) (by have := HR.out.2.2.2.1; omega))
      go_wp2_with fail
      refine HP.out.mono ?_
      clear HP C
      rintro e W4 ⟨A4, c4, N4, rfl, HQ⟩
      have hB := HQ.out.2.2.blk HR.out.2.1 HR.out.2.2.1
      have HB := Lib.hid hB
      clear hB
      go_wp2_with fail
      go_roundw
      case rel => exact ⟨3, N4, A4, c4, _, by omega, rfl, rfl, Lib.hid ⟨HQ.out.2.1, HB.out.1, HB.out.2, by have := HQ.out.1; have := HR.out.2.2.2.1; omega, by rw [HR.out.2.2.2.2]; simp⟩⟩
      case measure => simp [intOf]
    obtain rfl : k = 3 := by omega
    clear hk hk0 hk1 hk2
    have hM3 : M3 = [3] ++ be 4 se ++ be 4 pc ++ be 4 pb ++ be 4 pn := by rw [HR.out.2.2.2.2]; simp
    subst hM3
    have HN := Lib.hid HR.out.1
    have HNn : Hid (N3 ≤ 212) := Lib.hid HR.out.2.2.2.1
    clear HR
    have C := blk_says HN.out.fr
    simp only [cellsSay, Nat.reduceAdd, and_true] at C
    go_wp2_with fail
    go_ret2
    refine ⟨A3, c3, N3, rfl, Lib.hid ⟨?_, ?_, HN.out.top⟩⟩
    · rw [HE.out]; exact HN.out.len
    · rw [HE.out]; exact HN.out.own.mono (Nat.le_succ _)

end Go.Proofs.Ytpedobpbpomkaaa
