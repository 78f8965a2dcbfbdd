/- Layer 7: Encode of the program. -/
import Derived.Test.YtpedobpbpomkaaaFr6
import Derived.Deep.RegionHeld3
import Derived.Deep.DeepCutAuto
set_option linter.unusedSimpArgs false
set_option linter.unusedVariables false
namespace Go.Proofs.Ytpedobpbpomkaaa
open Go.RowKit
set_option maxRecDepth 100000

theorem lsB {w : World} {g p c : Nat} {B : Option Addr} {l : List UInt8} {T : TypeId} (h : Blk w p T #[.slice B l.length c]) (hp : p ≠ g) (hb : Bsf w g B l) : Ls w g (some ⟨p, 0, none⟩) [l] := fun i x hi => by
  cases i with
  | succ i => simp at hi
  | zero =>
    simp at hi
    subst hi
    exact ⟨_, _, rfl, hp, _, _, h.cell 0, hb⟩
theorem TabF.below {w w' : World} {g : Nat} (h : TabF w g) (t : Below w.heap.size w w') : TabF w' g := Blk.below h t (Blk.lt h)
theorem flat_take {V : List Nat} {k : Nat} {v : Nat} (h : V[k]? = some v) : (V.take (k + 1)).flatMap (be 4) = (V.take k).flatMap (be 4) ++ be 4 v := by
  obtain ⟨hk, he⟩ := List.getElem?_eq_some_iff.1 h
  rw [List.take_succ_eq_append_getElem hk, List.flatMap_append, he]
  simp
set_option maxHeartbeats 16000000 in
theorem fenc_yes (f : FrD) (A : Option Addr) (c : Nat) (w : World) (hA : Bs w A f.l) (ho : f.ok) (hm : mayF f = true) :
    Calls Try.prog 14 #[.agg (frC f A c)] w fun e w' => ∃ A' c' N, e = .returned (.tuple #[.slice A' N c', .int .u16 0]) ∧ Hid (N = (encF f).length ∧ OwnB w' w.heap.size (.slice A' N c') (encF f) ∧ Below w.heap.size w w') := by
  obtain ⟨hn0, hn1, hl⟩ := mayF_n hm
  have hM := fmay_any f A c (w.alloc (.cells (frC f A c) 30)) (hA.below (below_alloc w _)) ho (by omega)
  rw [hm] at hM
  have hbd := body_eq f ho.1
  obtain ⟨E, hE⟩ : ∃ E, E = encF f := ⟨_, rfl⟩
  rw [← hE]
  have hE2 : E = bodyF f ++ be 4 (crcL (bodyF f)) := hE
  rw [hbd] at hE2
  obtain ⟨o1, o2, o3, o4, o5, o6, o7, o8, -, -⟩ := ho
  clear hm hbd hE
  obtain ⟨kd, ep, se, fc, fb, fn, cn, cl, sm, l, n⟩ := f
  simp only [frC] at hM hA hn0 hn1 hl hE2 o1 o2 o3 o4 o5 o6 o7 o8 ⊢
  obtain ⟨m, rfl⟩ := Int.eq_ofNat_of_zero_le hn0
  simp only [Int.toNat_natCast] at hE2
  obtain ⟨V6, hV6⟩ : ∃ V : List Nat, V = [ep, se, fc, fb, fn, cn] := ⟨_, rfl⟩
  have hVb : ∀ v ∈ V6, v < 4294967296 := fun v hv => by
    rw [hV6] at hv
    simp only [List.mem_cons, List.not_mem_nil, or_false] at hv
    rcases hv with rfl | rfl | rfl | rfl | rfl | rfl <;> assumption
  have HVb := Lib.hid hVb
  have HV6 := Lib.hid hV6
  clear hVb hV6
  have HE := Lib.hid hE2
  have HM := Lib.hid hM
  have HA := Lib.hid hA
  clear hM hA hE2 hn0
  have u7 : IntKind.u64.wrap (m : Int) = m := by rw [IntKind.wrap_u64]; omega
  obtain ⟨x, hx⟩ : ∃ x : UInt8, x = UInt8.ofNat kd := ⟨_, rfl⟩
  rw [← hx] at HE
  obtain rfl : kd = x.toNat := by rw [hx]; simp; omega
  have hxl := x.toNat_lt
  have u0 : IntKind.u64.wrap ((x.toNat : Nat) : Int) = (x.toNat : Int) := by rw [IntKind.wrap_u64]; omega
  have hwm : IntKind.i64.wrap (44 + (l.length : Int)) = 44 + (l.length : Int) := by rw [IntKind.wrap_i64]; omega
  clear hx o1
  have HF0 := Lib.hid (Blk.new w 30 #[.int .u8 (x.toNat : Nat), .int .u32 (ep : Nat), .int .u32 (se : Nat), .int .u32 (fc : Nat), .int .u32 (fb : Nat), .int .u32 (fn : Nat), .int .u32 (cn : Nat), .bool cl, .int .u64 (sm : Nat), .slice A l.length c, .int .i64 (m : Nat)])
  have hz0 : w.heap.size + 1 ≤ (w.alloc (.cells #[.int .u8 (x.toNat : Nat), .int .u32 (ep : Nat), .int .u32 (se : Nat), .int .u32 (fc : Nat), .int .u32 (fb : Nat), .int .u32 (fn : Nat), .int .u32 (cn : Nat), .bool cl, .int .u64 (sm : Nat), .slice A l.length c, .int .i64 (m : Nat)] 30)).heap.size := by simp
  go_enter Try.func14, Try.ntmps14
  have C := blk_says HF0.out
  simp only [cellsSay, Nat.reduceAdd, and_true] at C
  go_wp2_with fail
  refine HM.out.mono ?_
  rintro e w1 ⟨rfl, b1⟩
  have HF1 := Lib.hid (Blk.below HF0.out b1 (by simp))
  have HB1 := Lib.hid ((below_alloc w _).trans (b1.mono (by simp)))
  have hz1 : w.heap.size + 1 ≤ w1.heap.size := Nat.le_trans hz0 b1.size
  clear C b1 HM HF0 hz0
  have C := blk_says HF1.out
  simp only [cellsSay, Nat.reduceAdd, and_true] at C
  go_upto_region 4 with (at_make; go_must (refine mkB0 _ rfl (.const (.int .i64 0)) (.tmp 16) rfl (w.heap.size + 1) (44 + l.length) _ rfl rfl (by omega) (by omega) hz1 ?_); intro w2 hown2 hb2 hs2)
  have HE2 : Hid (En w (w2.alloc (.cells #[.slice (some ⟨w1.heap.size, 0, none⟩) 0 (44 + l.length)] 26)) #[.int .u8 (x.toNat : Nat), .int .u32 (ep : Nat), .int .u32 (se : Nat), .int .u32 (fc : Nat), .int .u32 (fb : Nat), .int .u32 (fn : Nat), .int .u32 (cn : Nat), .bool cl, .int .u64 (sm : Nat), .slice A l.length c, .int .i64 (m : Nat)] 0 (some ⟨w1.heap.size, 0, none⟩) (44 + l.length) w2.heap.size []) := Lib.hid ⟨(HF1.out.below hb2 (by omega)).below (below_alloc w2 _) (by have := hb2.size; omega), Blk.new w2 _ _, hown2.alloc _, (by simp [Value.ownBlock]; omega), rfl, (HB1.out.trans (hb2.mono (by omega))).trans ((below_alloc w2 _).mono (by have := hb2.size; omega)), by omega⟩
  obtain ⟨q, hq⟩ : ∃ q, q = w2.heap.size := ⟨_, rfl⟩
  obtain ⟨w3, hw3⟩ : ∃ w3, w3 = w2.alloc (.cells #[.slice (some ⟨w1.heap.size, 0, none⟩) 0 (44 + l.length)] 26) := ⟨_, rfl⟩
  rw [← hw3, ← hq] at HE2
  rw [← hw3, ← hq]
  clear hw3 hq hown2 hb2 hs2 C HF1 HB1 hz1
  obtain ⟨A3, hA3⟩ : ∃ A3 : Option Addr, A3 = some ⟨w1.heap.size, 0, none⟩ := ⟨_, rfl⟩
  obtain ⟨c3, hc3⟩ : ∃ c3, c3 = 44 + l.length := ⟨_, rfl⟩
  rw [← hA3, ← hc3] at HE2
  clear hA3 hc3
  have C := And.intro HE2.out.cell (blk_says HE2.out.fr)
  simp only [cellsSay, Nat.reduceAdd, and_true] at C
  have HP := Lib.hid (HE2.out.put 17497 2 (by omega) (by omega) (by omega))
  go_wp2_with fail
  refine HP.out.mono ?_
  rintro e v3 ⟨rfl, A4, c4, N4, HR⟩
  obtain ⟨M4, hM⟩ : ∃ M : List UInt8, M = ([] : List UInt8) ++ be 2 17497 := ⟨_, rfl⟩
  have HM4 := Lib.hid hM
  have HE3 := Lib.hid (show En w v3 _ N4 A4 c4 q M4 by rw [hM]; exact HR.out.2.1)
  have hN4 := HR.out.1
  clear HR hM HP C HE2
  have C := And.intro HE3.out.cell (blk_says HE3.out.fr)
  simp only [cellsSay, Nat.reduceAdd, and_true] at C
  have HP := Lib.hid (HE3.out.put x.toNat 1 (by omega) (by omega) (by omega))
  go_wp2_with fail
  refine HP.out.mono ?_
  rintro e v4 ⟨rfl, A5, c5, N5, HR⟩
  obtain ⟨M5, hM⟩ : ∃ M : List UInt8, M = M4 ++ be 1 x.toNat := ⟨_, rfl⟩
  have HM5 := Lib.hid hM
  have HE4 := Lib.hid (show En w v4 _ N5 A5 c5 q M5 by rw [hM]; exact HR.out.2.1)
  have hN5 := HR.out.1
  clear HR hM HP C HE3
  have C := And.intro HE4.out.cell (blk_says HE4.out.fr)
  simp only [cellsSay, Nat.reduceAdd, and_true] at C
  go_wp2_with fail
  obtain ⟨v4b, hvb⟩ : ∃ W, W = v4.alloc (.cells #[.int .u32 (ep : Nat), .int .u32 (se : Nat), .int .u32 (fc : Nat), .int .u32 (fb : Nat), .int .u32 (fn : Nat), .int .u32 (cn : Nat)] 22) := ⟨_, rfl⟩
  have HVB : Hid (Blk v4b v4.heap.size 22 (V6.map (fun v : Nat => Value.int .u32 (v : Int))).toArray) := Lib.hid (by rw [hvb, HV6.out]; exact Blk.new _ _ _)
  have HE4b := Lib.hid (show En w v4b _ N5 A5 c5 q M5 by rw [hvb]; exact HE4.out.go (below_alloc _ _))
  have HVn : Hid ((Value.slice A5 N5 c5).ownBlock ≠ some v4.heap.size ∧ v4.heap.size ≠ q) := Lib.hid ⟨fun e => by have := (World.ownsRow.lt HE4.out.own _ e).2; omega, by have := HE4.out.bx.lt; omega⟩
  rw [← hvb]
  obtain ⟨vb, hvbe⟩ : ∃ vb, vb = v4.heap.size := ⟨_, rfl⟩
  rw [← hvbe] at HVB HVn ⊢
  clear hvb hvbe C HE4
  have hV6l : V6.length = 6 := by rw [HV6.out]; rfl
  go_loopw [43] (fun s43 wr => ∃ k : Nat, k ≤ 6 ∧ s43 = .int .i64 k ∧ Hid (∃ (A2 : Option Addr) (c2 N2 : Nat) (M2 : List UInt8), N2 = 3 + 4 * k ∧ M2 = M5 ++ (V6.take k).flatMap (be 4) ∧ En w wr #[.int .u8 (x.toNat : Nat), .int .u32 (ep : Nat), .int .u32 (se : Nat), .int .u32 (fc : Nat), .int .u32 (fb : Nat), .int .u32 (fn : Nat), .int .u32 (cn : Nat), .bool cl, .int .u64 (sm : Nat), .slice A l.length c, .int .i64 (m : Nat)] N2 A2 c2 q M2 ∧ Blk wr vb 22 (V6.map (fun v : Nat => Value.int .u32 (v : Int))).toArray ∧ (Value.slice A2 N2 c2).ownBlock ≠ some vb ∧ vb ≠ q))
    (fun s43 _ => 6 - (intOf s43).toNat)
  case atStart => exact ⟨0, Nat.zero_le _, rfl, Lib.hid ⟨_, _, _, _, by omega, by simp, HE4b.out, HVB.out, HVn.out.1, HVn.out.2⟩⟩
  case round =>
    obtain ⟨k, hk, rfl, HR⟩ := hrel
    by_cases hlt : k < 6
    · obtain ⟨A2, c2, N2, M2, h1, h2, h3, h4, h5, h6⟩ := HR.out
      have hvk := List.getElem?_eq_getElem (show k < V6.length by omega)
      obtain ⟨v, hv⟩ : ∃ v, v = V6[k]'(by omega) := ⟨_, rfl⟩
      rw [← hv] at hvk
      have hcv : wr.cell? ⟨vb, k, none⟩ = some (.int .u32 (v : Nat)) := by rw [h4.cell]; simp [hvk]
      have hvl := HVb.out v (List.mem_of_getElem? hvk)
      have uv : IntKind.u64.wrap (v : Int) = v := by rw [IntKind.wrap_u64]; omega
      have HM2 := Lib.hid (show M2 ++ be 4 v = M5 ++ (V6.take (k + 1)).flatMap (be 4) by rw [flat_take hvk, h2, List.append_assoc])
      have HP := Lib.hid (h3.put v 4 (by omega) (by omega) (by omega))
      have H1 := Lib.hid h1
      have H4 := Lib.hid h4
      have H5 := Lib.hid (And.intro h5 h6)
      have hk6 : (k : Int) < 6 := by omega
      clear h1 h2 h3 h4 h5 h6 HR hvk hv
      go_wp2_with fail
      refine HP.out.mono ?_
      rintro e w8 ⟨rfl, A3, c3, N3, HR⟩
      have HRel : Hid (∃ (A2 : Option Addr) (c2 N2 : Nat) (M2 : List UInt8), N2 = 3 + 4 * (k + 1) ∧ M2 = M5 ++ (V6.take (k + 1)).flatMap (be 4) ∧ En w w8 #[.int .u8 (x.toNat : Nat), .int .u32 (ep : Nat), .int .u32 (se : Nat), .int .u32 (fc : Nat), .int .u32 (fb : Nat), .int .u32 (fn : Nat), .int .u32 (cn : Nat), .bool cl, .int .u64 (sm : Nat), .slice A l.length c, .int .i64 (m : Nat)] N2 A2 c2 q M2 ∧ Blk w8 vb 22 (V6.map (fun v : Nat => Value.int .u32 (v : Int))).toArray ∧ (Value.slice A2 N2 c2).ownBlock ≠ some vb ∧ vb ≠ q) := Lib.hid (by
        obtain ⟨r1, r2, r3, r4⟩ := HR.out
        refine ⟨A3, c3, N3, M2 ++ be 4 v, by have := H1.out; omega, HM2.out, r2, H4.out.ft r3 H5.out.2 H5.out.1, fun e => ?_, H5.out.2⟩
        rcases r4 vb e with h9 | h9
        · exact H5.out.1 h9
        · have := H4.out.lt; omega)
      clear HR HP
      go_wp2_with fail
      go_roundw
      case measure => simp [intOf]; omega
      case rel => exact ⟨k + 1, by omega, by go_num, HRel⟩
    · obtain rfl : k = 6 := by omega
      obtain ⟨A6, c6, N6, M6, h1, h2, h3, -, -, -⟩ := HR.out
      rw [List.take_of_length_le (by omega)] at h2
      have HM6 := Lib.hid h2
      have HE5 := Lib.hid h3
      clear h2 h3 HR HVB
      have C := And.intro HE5.out.cell (blk_says HE5.out.fr)
      simp only [cellsSay, Nat.reduceAdd, and_true] at C
      obtain ⟨y, hy⟩ : ∃ y : UInt8, y = if cl then 1 else 0 := ⟨_, rfl⟩
      rw [← hy] at HE
      have hyl := y.toNat_lt
      have HY := Lib.hid hy
      clear hy
      go_upto_if 53 with fail
      go_cut [8] (fun s8 wx => s8 = .int .u64 (y.toNat : Nat) ∧ wr = wx)
      case first =>
        cases cl
        · have hy := HY.out
          go_wp2_with fail
          go_meet
          exact ⟨by rw [hy]; rfl, rfl⟩
        · have hy := HY.out
          go_wp2_with fail
          go_meet
          exact ⟨by rw [hy]; rfl, rfl⟩
      case rest =>
        obtain ⟨rfl, rfl⟩ := hcut
        have hb1 : be 1 y.toNat = [y] := by rw [be_one hyl]; simp
        have Hb1 := Lib.hid hb1
        clear hb1
        have HP := Lib.hid (HE5.out.put y.toNat 1 (by omega) (by omega) (by omega))
        go_wp2_with fail
        refine HP.out.mono ?_
        rintro e v6 ⟨rfl, A7, c7, N7, HR⟩
        obtain ⟨M7, hM⟩ : ∃ M : List UInt8, M = M6 ++ be 1 y.toNat := ⟨_, rfl⟩
        have HM7 := Lib.hid hM
        have HE6 := Lib.hid (show En w v6 _ N7 A7 c7 q M7 by rw [hM]; exact HR.out.2.1)
        have hN7 := HR.out.1
        clear HR hM HP C HE5
        have C := And.intro HE6.out.cell (blk_says HE6.out.fr)
        simp only [cellsSay, Nat.reduceAdd, and_true] at C
        have HP := Lib.hid (HE6.out.put sm 8 (by omega) (by omega) (by omega))
        go_wp2_with fail
        refine HP.out.mono ?_
        rintro e v7 ⟨rfl, A8, c8, N8, HR⟩
        obtain ⟨M8, hM⟩ : ∃ M : List UInt8, M = M7 ++ be 8 sm := ⟨_, rfl⟩
        have HM8 := Lib.hid hM
        have HE7 := Lib.hid (show En w v7 _ N8 A8 c8 q M8 by rw [hM]; exact HR.out.2.1)
        have hN8 := HR.out.1
        clear HR hM HP C HE6
        have C := And.intro HE7.out.cell (blk_says HE7.out.fr)
        simp only [cellsSay, Nat.reduceAdd, and_true] at C
        have HP := Lib.hid (HE7.out.put m 4 (by omega) (by omega) (by omega))
        go_wp2_with fail
        refine HP.out.mono ?_
        rintro e v8 ⟨rfl, A9, c9, N9, HR⟩
        obtain ⟨M9, hM⟩ : ∃ M : List UInt8, M = M8 ++ be 4 m := ⟨_, rfl⟩
        have HM9 := Lib.hid hM
        have HE8 := Lib.hid (show En w v8 _ N9 A9 c9 q M9 by rw [hM]; exact HR.out.2.1)
        have hN9 := HR.out.1
        clear HR hM HP C HE7
        have C := And.intro HE8.out.cell (blk_says HE8.out.fr)
        simp only [cellsSay, Nat.reduceAdd, and_true] at C
        obtain rfl : N9 = 40 := by omega
        have hML : M9.length = 40 := HE8.out.len.symm
        have hMl : M9.length ≤ 100 := by omega
        clear hML
        have C2 := fun (W : World) (g : v8.grownBy W (Value.slice A9 40 c9).ownBlock) => Blk.kept HE8.out.bx g HE8.out.ne
        go_upto_region 19 with (at_builtin; go_must (refine appAllL _ rfl (.tmp 67) (.tmp 70) rfl (w.heap.size + 1) _ M9 rfl HE8.out.own A c l rfl (HA.out.below HE8.out.top) (by omega) HE8.out.siz ?_); intro A12 c12 w12 hown12 hg12 hl12; have hbx := C2 w12 hg12; have fbx := hbx.frozen 0; have cbx := hbx.cell 0)
        obtain ⟨N12, hN12⟩ : ∃ N, N = M9.length + l.length := ⟨_, rfl⟩
        have HE12 := Lib.hid (HE8.out.store (N2 := M9.length + l.length) hown12 hg12 hl12 (by simp))
        rw [← hN12] at HE12 ⊢
        obtain ⟨M12, hM⟩ : ∃ M : List UInt8, M = M9 ++ l := ⟨_, rfl⟩
        have HM12 := Lib.hid hM
        rw [← hM] at HE12
        obtain ⟨w13, hw13⟩ : ∃ W, W = w12.setCell ⟨q, 0, none⟩ (.slice A12 N12 c12) := ⟨_, rfl⟩
        rw [← hw13] at HE12 ⊢
        have hN12l : N12 ≤ 5000 := by omega
        clear hM hN12 hown12 hg12 hl12 hbx fbx cbx C C2 HE8 hw13
        obtain rfl : N12 = M12.length := HE12.out.len
        have HBd := Lib.hid (show Below w13.heap.size w13 w13.drew from (Below.refl _ w13).grown (grown_drew _ none) (Nat.le_refl _) (fun k e => by cases e))
        have HBa := Lib.hid (fun (o : Obj) => show Below w13.heap.size w13 (w13.alloc o).drew from (below_alloc w13 o).grown (grown_drew _ none) (by simp) (fun k e => by cases e))
        have HBb := Lib.hid (show Bs w13 A12 M12 from HE12.out.own.bs)
        have d13 := HE12.out.cell.1
        have hq13 : q < w13.heap.size := HE12.out.bx.lt
        go_wp2_with fail
        go_region_with (first
          | (go_at_call 31; refine (crcNew_any _).mono ?_; rintro e w14 ⟨rfl, hT, b14⟩; (first | (have HT := Lib.hid (show TabF w14 w13.heap.size from hT)) | (have HT := Lib.hid (show TabF w14 (w13.heap.size + 1) by simpa using hT))); have HBn := Lib.hid b14; have HB14 : Hid (Below w13.heap.size w13 w14) := Lib.hid (by first | exact HBd.out.trans b14 | exact (HBa.out _).trans (b14.mono (HBa.out _).size)); have d14 := (HE12.out.go HB14.out).cell.1; clear hT b14)
          | (go_at_call 32; refine (crcSum_any _ _ 1 [M12] _ (.inl (by first | exact HT.out.below (below_alloc _ _) | exact HT.out)) (by first | exact lsB (Blk.new _ _ _) (by have := Blk.lt HT.out; simp at this ⊢; omega) ((HBb.out.past HB14.out (Nat.le_refl _)).below (below_alloc _ _)) | exact lsB (T := 26) (p := w13.heap.size) (Blk.below (by exact Blk.new w13 26 #[.slice A12 M12.length c12]) HBn.out (by simp)) (by simp) (HBb.out.past HB14.out (by simp))) (by simp) (by simp; omega)).mono ?_; rintro e w15 ⟨s, HS, rfl, hTM, hTch⟩; have HB15 : Hid (Below w13.heap.size w13 w15) := Lib.hid (by first | exact Tch.below (HB14.out.trans ((below_alloc _ _).mono HB14.out.size)) hTch (by simp; have := HB14.out.size; omega) (by simp) | exact Tch.below HB14.out hTch HB14.out.size (by simp)); have hs32 : s < 4294967296 := (by rw [HS.out]; exact crcL_lt _); have us : IntKind.u64.wrap (s : Int) = s := (by rw [IntKind.wrap_u64]; omega); have HP := Lib.hid ((HE12.out.go HB15.out).put s 4 (by omega) (by omega) (by omega)); clear hTM hTch)
          | (go_at_call 30; refine HP.out.mono ?_; rintro e w16 ⟨rfl, A16, c16, N16, HR⟩; have e16 := HR.out.2.1.cell.1))
        all_goals
          have HF : Hid (N16 = E.length ∧ OwnB w16 w.heap.size (.slice A16 N16 c16) E ∧ Below w.heap.size w w16) := Lib.hid (by
            have hEq : M12 ++ be 4 s = E := by
              rw [HS.out, HE.out, show ([M12] : List (List UInt8)).flatten = M12 by simp]
              have hM : M12 = [68, 89, x] ++ be 4 ep ++ be 4 se ++ be 4 fc ++ be 4 fb ++ be 4 fn ++ be 4 cn ++ [y] ++ be 8 sm ++ be 4 m ++ l := by
                rw [HM12.out, HM9.out, HM8.out, HM7.out, HM6.out, HM5.out, HM4.out]
                have e1 : be 2 17497 = [68, 89] := by decide
                have e2 : be 1 x.toNat = [x] := by rw [be_one hxl]; simp
                rw [e1, e2, Hb1.out, HV6.out]
                simp
              rw [hM]
            refine ⟨?_, ?_, HR.out.2.1.top⟩
            · rw [← hEq, List.length_append, be_len]; exact HR.out.1
            · rw [← hEq]; exact HR.out.2.1.own.mono (by omega))
          clear HP
          go_wp2_with fail
          go_ret2
          exact ⟨A16, c16, N16, rfl, HF⟩

end Go.Proofs.Ytpedobpbpomkaaa
