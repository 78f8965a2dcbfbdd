/- Layer 7: Decode of the program, where the sum is right. -/
import Derived.Test.YtpedobpbpomkaaaFr14
import Derived.Test.YtpedobpbpomkaaaFr10
set_option linter.unusedSimpArgs false
set_option linter.unusedVariables false
namespace Go.Proofs.Ytpedobpbpomkaaa
open Go.RowKit
set_option maxRecDepth 100000

set_option maxHeartbeats 8000000 in
theorem fdec_main (A : Option Addr) (c : Nat) (l : List UInt8) (w : World) (hA : Bs w A l) (hc : l.length ≤ c) (h44 : 44 ≤ l.length) (h96 : l.length ≤ 4096) (hsum : crcL (frontOf l) = num (backOf l)) :
    Calls Try.prog 19 #[.slice A l.length c] w fun e w' => ∃ A' c', e = .returned (.tuple #[.agg (frC (decF l).1 A' c'), .int .u16 ((decF l).2 : Nat)]) ∧ Hid (OwnB w' w.heap.size (.slice A' (decF l).1.l.length c') (decF l).1.l ∧ Below w.heap.size w w') := by
  obtain ⟨p, o, rfl⟩ := hA.cutZ (by omega)
  obtain ⟨r, hr⟩ : ∃ r, r = l.length - 4 := ⟨_, rfl⟩
  have hrw : IntKind.i64.wrap ((l.length : Int) - 4) = (r : Int) := by rw [IntKind.wrap_i64]; omega
  have hrc : (r : Int) ≤ c := by omega
  have hrc2 : r ≤ c := by omega
  have hrc3 : r < c := by omega
  have hrl : (r : Int) ≤ l.length := by omega
  have hrl2 : r ≤ l.length := by omega
  have hlr : l.length - r = 4 := by omega
  have hlr2 : (l.length : Int) - r = 4 := by omega
  have hd : decide ((l.length : Int) < 44) = false := decide_eq_false (by omega)
  have hd2 : decide ((4096 : Int) < l.length) = false := decide_eq_false (by omega)
  have hbl : (backOf l).length = 4 := by unfold backOf; rw [List.length_drop]; omega
  have hpb : part (backOf l) 0 4 = backOf l := by unfold part; exact List.take_of_length_le (by rw [List.drop_zero, hbl]; exact Nat.le_refl _)
  have hfl : (frontOf l).length = r := by unfold frontOf; rw [List.length_take]; omega
  have hbk : backOf l = (l.drop r).take 4 := by unfold backOf; rw [← hr]; exact (List.take_of_length_le (by rw [List.length_drop]; omega)).symm
  obtain ⟨w1, hw1⟩ : ∃ w1, w1 = w.alloc (.cells #[.int .u8 0, .int .u32 0, .int .u32 0, .int .u32 0, .int .u32 0, .int .u32 0, .int .u32 0, .bool false, .int .u64 0, .slice none 0 0, .int .i64 0] 30) := ⟨_, rfl⟩
  have HF := Lib.hid (show Blk w1 w.heap.size 30 #[.int .u8 0, .int .u32 0, .int .u32 0, .int .u32 0, .int .u32 0, .int .u32 0, .int .u32 0, .bool false, .int .u64 0, .slice none 0 0, .int .i64 0] by rw [hw1]; exact Blk.new _ _ _)
  have HB1 := Lib.hid (show Below w.heap.size w w1 by rw [hw1]; exact below_alloc _ _)
  have HA1 := Lib.hid (show Bs w1 (some ⟨p, o, none⟩) l from hA.below HB1.out)
  obtain ⟨n4, hn4⟩ : ∃ n, n = num (backOf l) := ⟨_, rfl⟩
  obtain ⟨s4, hs4⟩ : ∃ n, n = crcL (frontOf l) := ⟨_, rfl⟩
  have us : IntKind.u64.wrap (s4 : Int) = (s4 : Int) := by have := crcL_lt (frontOf l); rw [IntKind.wrap_u64]; omega
  have HNw : Hid (∀ W op oq, Rg w1 W (.slice (some ⟨p, o, none⟩) r c) (.slice (some ⟨p, o + r, none⟩) 4 (c - r)) none op oq → Calls Try.prog 31 #[] W fun e w' => e = .returned (.pointer (some ⟨W.heap.size, 0, none⟩)) ∧ Rg w1 w' (.slice (some ⟨p, o, none⟩) r c) (.slice (some ⟨p, o + r, none⟩) 4 (c - r)) (some W.heap.size) op oq) := Lib.hid (fun W op oq h => (crcNew_any W).mono (by rintro e w5 ⟨he, ht, hb⟩; exact ⟨he, h.new hb ht⟩))
  have HSm : Hid (∀ W g p2 oq, Rg w1 W (.slice (some ⟨p, o, none⟩) r c) (.slice (some ⟨p, o + r, none⟩) 4 (c - r)) (some g) (some p2) oq → Calls Try.prog 32 #[.pointer (some ⟨g, 0, none⟩), .slice (some ⟨p2, 0, none⟩) 1 1] W fun e w' => e = .returned (.int .u32 (s4 : Nat)) ∧ Rg w1 w' (.slice (some ⟨p, o, none⟩) r c) (.slice (some ⟨p, o + r, none⟩) 4 (c - r)) none none oq) := Lib.hid (fun W g p2 oq h => by
    have hrow := (h.p p2 rfl).1
    rw [← hfl] at hrow
    refine (crcSum_any g (some ⟨p2, 0, none⟩) 1 [frontOf l] W (.inl (h.t g rfl).1) (lsB hrow (h.gp g p2 rfl rfl).symm ((bs_takeN HA1.out _).past h.b (h.t g rfl).2)) (by simp) (by simp; omega)).mono ?_
    rintro e w5 ⟨x, hx, rfl, -, ht⟩
    have hx := hx.out
    rw [show ([frontOf l] : List (List UInt8)).flatten = frontOf l by simp, ← hs4] at hx
    exact ⟨by rw [hx], h.summed ht⟩)
  have HNm : Hid (∀ W og op, Rg w1 W (.slice (some ⟨p, o, none⟩) r c) (.slice (some ⟨p, o + r, none⟩) 4 (c - r)) og op none → Calls Try.prog 39 #[(.slice (some ⟨p, o + r, none⟩) 4 (c - r))] W fun e w' => ∃ q1 q2, e = .returned (.func (.func 55) #[] #[.pointer (some ⟨q1, 0, none⟩), .pointer (some ⟨q2, 0, none⟩)]) ∧ Rg w1 w' (.slice (some ⟨p, o, none⟩) r c) (.slice (some ⟨p, o + r, none⟩) 4 (c - r)) og op (some (q1, q2))) := Lib.hid (fun W og op h => (numbers_new _ _ _ W).mono (by rintro e w5 ⟨q1, q2, he, hh⟩; exact ⟨q1, q2, he, h.nums hh.out⟩))
  have HNx : Hid (∀ W og op q1 q2, Rg w1 W (.slice (some ⟨p, o, none⟩) r c) (.slice (some ⟨p, o + r, none⟩) 4 (c - r)) og op (some (q1, q2)) → Calls Try.prog 55 #[.int .i64 4, .pointer (some ⟨q1, 0, none⟩), .pointer (some ⟨q2, 0, none⟩)] W fun e w' => e = .returned (.int .u64 (n4 : Nat)) ∧ Rg w1 w' (.slice (some ⟨p, o, none⟩) r c) (.slice (some ⟨p, o + r, none⟩) 4 (c - r)) og op none) := Lib.hid (fun W og op q1 q2 h => by
    have hn := (h.q (q1, q2) rfl).1
    rw [← hbl] at hn
    have hb : Bs W (some ⟨p, o + r, none⟩) (backOf l) := by rw [hbk]; exact Bs.cut (HA1.out.below h.b) r 4
    have := fnext_any 4 0 q1 q2 (some ⟨p, o + r, none⟩) (c - r) (backOf l) W hn hb (by omega) (by omega) (by omega) (by omega) (by omega)
    rw [hpb, ← hn4] at this
    refine this.mono ?_
    rintro e w5 ⟨he, -, hg⟩
    exact ⟨he, h.call hg⟩)
  have HG := Lib.hid (Rg.start w1 (.slice (some ⟨p, o, none⟩) r c) (.slice (some ⟨p, o + r, none⟩) 4 (c - r)))
  have hne : ((s4 : Int) != (n4 : Int)) = false := by rw [hn4, hs4, hsum]; simp
  obtain ⟨bn, hbn⟩ : ∃ b, b = false := ⟨_, rfl⟩
  rw [← hbn] at hne
  have HBn := Lib.hid hbn
  have hpl : ∀ i w, i + w ≤ l.length → num (part l i w) < 256 ^ w := fun i w h => by have := num_lt (part l i w); rwa [part_len h] at this
  obtain ⟨mk, hmk⟩ : ∃ v, v = num (part l 0 2) := ⟨_, rfl⟩
  have Hmk := Lib.hid hmk
  obtain ⟨kd, hkd⟩ : ∃ v, v = num (part l 2 1) := ⟨_, rfl⟩
  have Hkd := Lib.hid hkd
  have u_kd : IntKind.u8.wrap (kd : Int) = (kd : Int) := by have := hpl 2 1 (by omega); rw [← hkd] at this; have this : kd < 256 ^ 1 := this; rw [IntKind.wrap_u8]; omega
  obtain ⟨ep, hep⟩ : ∃ v, v = num (part l 3 4) := ⟨_, rfl⟩
  have Hep := Lib.hid hep
  obtain ⟨se, hse⟩ : ∃ v, v = num (part l 7 4) := ⟨_, rfl⟩
  have Hse := Lib.hid hse
  obtain ⟨fc, hfc⟩ : ∃ v, v = num (part l 11 4) := ⟨_, rfl⟩
  have Hfc := Lib.hid hfc
  obtain ⟨fb, hfb⟩ : ∃ v, v = num (part l 15 4) := ⟨_, rfl⟩
  have Hfb := Lib.hid hfb
  obtain ⟨fn, hfn⟩ : ∃ v, v = num (part l 19 4) := ⟨_, rfl⟩
  have Hfn := Lib.hid hfn
  obtain ⟨cn, hcn⟩ : ∃ v, v = num (part l 23 4) := ⟨_, rfl⟩
  have Hcn := Lib.hid hcn
  obtain ⟨cb, hcb⟩ : ∃ v, v = num (part l 27 1) := ⟨_, rfl⟩
  have Hcb := Lib.hid hcb
  obtain ⟨sm, hsm⟩ : ∃ v, v = num (part l 28 8) := ⟨_, rfl⟩
  have Hsm := Lib.hid hsm
  obtain ⟨m, hm⟩ : ∃ v, v = num (part l 36 4) := ⟨_, rfl⟩
  have Hm := Lib.hid hm
  have u_m : IntKind.i64.wrap (m : Int) = (m : Int) := by have := hpl 36 4 (by omega); rw [← hm] at this; have this : m < 256 ^ 4 := this; rw [IntKind.wrap_i64]; omega
  obtain ⟨cl, hcl⟩ : ∃ cl, ((cb : Int) == 1) = cl := ⟨_, rfl⟩
  obtain ⟨mb, hmb⟩ : ∃ b, ((mk : Int) == 17497) = b := ⟨_, rfl⟩
  obtain ⟨R, hR⟩ : ∃ R, R = part l 40 (l.length - 44) := ⟨_, rfl⟩
  have hG : parF l = ⟨kd, ep, se, fc, fb, fn, cn, cl, sm, R, (m : Nat)⟩ := by
    unfold parF
    rw [← hkd, ← hcb, ← hep, ← hse, ← hcn, ← hfc, ← hfb, ← hfn, ← hm, ← hsm, ← hR]
    congr 1
    rw [← hcl, Bool.eq_iff_iff, decide_eq_true_iff, beq_iff_eq]; omega
  have HD : Hid (decF l = if goodF l then (⟨kd, ep, se, fc, fb, fn, cn, cl, sm, R, (m : Nat)⟩, 0) else (zeroF, 70)) := Lib.hid (by unfold decF; rw [if_neg (by omega), if_neg (by rw [hsum]; simp), hG])
  have hok := parF_ok l
  rw [hG] at hok
  have HOk := Lib.hid hok
  have HGd : Hid (goodF l = (mb && (decide (cb ≤ 1) && mayF ⟨kd, ep, se, fc, fb, fn, cn, cl, sm, R, (m : Nat)⟩))) := Lib.hid (by
    unfold goodF
    rw [hG, ← hmk, ← hcb, ← hmb, Bool.eq_iff_iff]
    simp [and_assoc]
    intros; omega)
  have HRl : Hid (R.length = r - 40 ∧ R = part l 40 (r - 40)) := Lib.hid ⟨by rw [hR, part_len (by omega)]; omega, by rw [hR, hr, show l.length - 44 = l.length - 4 - 40 by omega]⟩
  have HZ := Lib.hid frC_zero
  have HL := Lib.hid (And.intro h44 (And.intro h96 (And.intro hc hr)))
  clear hn4 hs4 hpb hbk hbl hfl hr hsum hA hc hbn hpl hG hok hR hmk hkd hep hse hfc hfb hfn hcn hcb hsm hm
  have HU := Lib.hid (And.intro hcl (And.intro hmb (And.intro u_kd u_m)))
  clear hcl hmb u_kd u_m
  go_enter Try.func19, Try.ntmps19
  go_upto_region 4 with fail
  rw [← hw1]
  clear hw1
  go_cut [34] (fun s34 wx => s34 = .bool bn ∧ Hid (Below w1.heap.size w1 wx))
  case first =>
    go_region_with (first
      | (go_at_call 31; refine (HNw.out _ _ _ (by first | exact HG.out | exact HG.out.drew | exact HG.out.alloc | exact HG.out.alloc.drew | exact HG.out.drew.alloc | exact HG.out.drew.alloc.drew | exact HG.out.drew.drew | exact HG.out.drew.drew.alloc | exact HG.out.drew.drew.alloc.drew | exact HG.out.drew.drew.drew)).mono ?_; rintro e wN ⟨rfl, h⟩; try simp at h; replace HG := Lib.hid h; clear h)
      | (go_at_call 32; refine (HSm.out _ _ _ _ (by first | exact HG.out | exact HG.out.drew | exact HG.out.alloc | exact HG.out.alloc.drew | exact HG.out.drew.alloc | exact HG.out.drew.alloc.drew | exact HG.out.drew.drew | exact HG.out.drew.drew.alloc | exact HG.out.drew.drew.alloc.drew | exact HG.out.drew.drew.drew)).mono ?_; rintro e wS ⟨rfl, h⟩; replace HG := Lib.hid h; clear h)
      | (go_at_call 39; refine (HNm.out _ _ _ (by first | exact HG.out | exact HG.out.drew | exact HG.out.alloc | exact HG.out.alloc.drew | exact HG.out.drew.alloc | exact HG.out.drew.alloc.drew | exact HG.out.drew.drew | exact HG.out.drew.drew.alloc | exact HG.out.drew.drew.alloc.drew | exact HG.out.drew.drew.drew)).mono ?_; rintro e wM ⟨q1, q2, rfl, h⟩; replace HG := Lib.hid h; clear h)
      | (go_at_call 55; refine (HNx.out _ _ _ _ _ (by first | exact HG.out | exact HG.out.drew | exact HG.out.alloc | exact HG.out.alloc.drew | exact HG.out.drew.alloc | exact HG.out.drew.alloc.drew | exact HG.out.drew.drew | exact HG.out.drew.drew.alloc | exact HG.out.drew.drew.alloc.drew | exact HG.out.drew.drew.drew)).mono ?_; rintro e wX ⟨rfl, h⟩; replace HG := Lib.hid h; clear h))
    all_goals
      go_wp2_with fail
      go_meet
      exact ⟨rfl, Lib.hid (Rg.b (by first | exact HG.out | exact HG.out.drew | exact HG.out.alloc | exact HG.out.alloc.drew | exact HG.out.drew.alloc | exact HG.out.drew.alloc.drew | exact HG.out.drew.drew | exact HG.out.drew.drew.alloc | exact HG.out.drew.drew.alloc.drew | exact HG.out.drew.drew.drew))⟩
  case rest =>
    obtain ⟨rfl, hb2⟩ := hcut
    have hbn := HBn.out
    subst hbn
    obtain ⟨hcl, hmb, u_kd, u_m⟩ := HU.out
    have HF2 := Lib.hid (HF.out.below hb2.out HF.out.lt)
    have HNn := Lib.hid (numbers_new (some ⟨p, o, none⟩) l.length c wc)
    go_wp2_with fail
    refine HNn.out.mono ?_
    rintro e w5 ⟨q1, q2, rfl, h5⟩
    have H5 := Lib.hid h5.out
    clear h5
    have C := blk_says (Blk.new w5 68 #[.nilFunc])
    simp only [cellsSay, Nat.reduceAdd, and_true] at C
    go_upto_region 8 with fail
    obtain ⟨w6, hw6⟩ : ∃ W, W = w5.alloc (.cells #[.func (.func 55) #[] #[.pointer (some ⟨q1, 0, none⟩), .pointer (some ⟨q2, 0, none⟩)]] 68) := ⟨_, rfl⟩
    obtain ⟨q0, hq0⟩ : ∃ q, q = w5.heap.size := ⟨_, rfl⟩
    have HD0 : Hid (Dn w1 w6 q0 q1 q2 (.slice (some ⟨p, o, none⟩) l.length c) 0) := Lib.hid (by
      obtain ⟨hn, z1, z2, hb5⟩ := H5.out
      have z3 := hb2.out.size
      rw [hw6, hq0]
      exact ⟨(hb2.out.trans (hb5.mono z3)).trans ((below_alloc w5 _).mono (by have := hb5.size; omega)), ⟨hn.below (below_alloc w5 _), Blk.new w5 _ _, (Nat.ne_of_lt hn.ix.lt).symm⟩, by omega⟩)
    rw [← hw6, ← hq0]
    clear hw6 hq0 H5 HNn C HF2
    have C := blk_says HD0.out.wd.fx
    simp only [cellsSay, Nat.reduceAdd, and_true] at C
    go_wp2_with fail
    refine (HD0.out.next HA1.out 2 (by omega) (by omega) (by have := HL.out; omega) (by have := HL.out; omega) (by have := HL.out; omega) Hmk.out).mono ?_
    rintro e v1 ⟨rfl, hd, -⟩
    have HD1 := Lib.hid hd
    clear hd C HD0
    have C := blk_says HD1.out.wd.fx
    simp only [cellsSay, Nat.reduceAdd, and_true] at C
    go_wp2_with fail
    refine (HD1.out.next HA1.out 1 (by omega) (by omega) (by have := HL.out; omega) (by have := HL.out; omega) (by have := HL.out; omega) Hkd.out).mono ?_
    rintro e v2 ⟨rfl, hd, -⟩
    have HD2 := Lib.hid hd
    clear hd C HD1
    have C := blk_says HD2.out.wd.fx
    simp only [cellsSay, Nat.reduceAdd, and_true] at C
    go_wp2_with fail
    refine (HD2.out.word HA1.out (by have := HL.out; omega) (by have := HL.out; omega) (by have := HL.out; omega) Hep.out).mono ?_
    rintro e v3 ⟨rfl, hd, -⟩
    have HD3 := Lib.hid hd
    clear hd C HD2
    have C := blk_says HD3.out.wd.fx
    simp only [cellsSay, Nat.reduceAdd, and_true] at C
    go_wp2_with fail
    refine (HD3.out.word HA1.out (by have := HL.out; omega) (by have := HL.out; omega) (by have := HL.out; omega) Hse.out).mono ?_
    rintro e v4 ⟨rfl, hd, -⟩
    have HD4 := Lib.hid hd
    clear hd C HD3
    have C := blk_says HD4.out.wd.fx
    simp only [cellsSay, Nat.reduceAdd, and_true] at C
    go_upto_region 10 with fail
    obtain ⟨v5, hv5⟩ : ∃ W, W = v4.alloc (.cells #[.int .u8 (kd : Nat), .int .u32 (ep : Nat), .int .u32 (se : Nat), .int .u32 0, .int .u32 0, .int .u32 0, .int .u32 0, .bool false, .int .u64 0, .slice none 0 0, .int .i64 0] 30) := ⟨_, rfl⟩
    obtain ⟨g, hg⟩ : ∃ q, q = v4.heap.size := ⟨_, rfl⟩
    have HD5 : Hid (Dc w1 v5 q0 q1 q2 g #[.int .u8 (kd : Nat), .int .u32 (ep : Nat), .int .u32 (se : Nat), .int .u32 0, .int .u32 0, .int .u32 0, .int .u32 0, .bool false, .int .u64 0, .slice none 0 0, .int .i64 0] (.slice (some ⟨p, o, none⟩) l.length c) 11) := Lib.hid (by rw [hv5, hg]; exact HD4.out.make _)
    rw [← hv5, ← hg]
    clear hv5 hg C HD4
    have C := And.intro (blk_says HD5.out.d.wd.fx) (blk_says HD5.out.fr)
    simp only [cellsSay, Nat.reduceAdd, and_true] at C
    go_wp2_with fail
    refine (HD5.out.word HA1.out (by have := HL.out; omega) (by have := HL.out; omega) (by have := HL.out; omega) Hfc.out).mono ?_
    rintro e v6 ⟨rfl, hd⟩
    have HD6 := Lib.hid hd
    clear hd C HD5
    have C := And.intro (blk_says HD6.out.d.wd.fx) (blk_says HD6.out.fr)
    simp only [cellsSay, Nat.reduceAdd, and_true] at C
    go_wp2_with fail
    refine (HD6.out.word HA1.out (by have := HL.out; omega) (by have := HL.out; omega) (by have := HL.out; omega) Hfb.out).mono ?_
    rintro e v7 ⟨rfl, hd⟩
    have HD7 := Lib.hid hd
    clear hd C HD6
    have C := And.intro (blk_says HD7.out.d.wd.fx) (blk_says HD7.out.fr)
    simp only [cellsSay, Nat.reduceAdd, and_true] at C
    go_wp2_with fail
    refine (HD7.out.word HA1.out (by have := HL.out; omega) (by have := HL.out; omega) (by have := HL.out; omega) Hfn.out).mono ?_
    rintro e v8 ⟨rfl, hd⟩
    have HD8 := Lib.hid hd
    clear hd C HD7
    have C := And.intro (blk_says HD8.out.d.wd.fx) (blk_says HD8.out.fr)
    simp only [cellsSay, Nat.reduceAdd, and_true] at C
    go_upto_region 11 with fail
    generalize hW4 : World.setCell _ _ _ = v9
    have hb4 : Blk v9 g 30 #[.int .u8 (kd : Nat), .int .u32 (ep : Nat), .int .u32 (se : Nat), .int .u32 (fc : Nat), .int .u32 (fb : Nat), .int .u32 (fn : Nat), .int .u32 0, .bool false, .int .u64 0, .slice none 0 0, .int .i64 0] := by have h := Blk.sets [(3, .int .u32 (fc : Nat)), (4, .int .u32 (fb : Nat)), (5, .int .u32 (fn : Nat))] HD8.out.fr; rw [show sets v8 g [(3, .int .u32 (fc : Nat)), (4, .int .u32 (fb : Nat)), (5, .int .u32 (fn : Nat))] = v9 from hW4] at h; exact h
    have hg4 : v8.grownBy v9 (some g) := by have h := grown_sets g [(3, .int .u32 (fc : Nat)), (4, .int .u32 (fb : Nat)), (5, .int .u32 (fn : Nat))] v8; rw [show sets v8 g [(3, .int .u32 (fc : Nat)), (4, .int .u32 (fb : Nat)), (5, .int .u32 (fn : Nat))] = v9 from hW4] at h; exact h
    have HD9 := Lib.hid (HD8.out.store hg4 hb4)
    clear hb4 hg4 hW4 C HD8
    have C := And.intro (blk_says HD9.out.d.wd.fx) (blk_says HD9.out.fr)
    simp only [cellsSay, Nat.reduceAdd, and_true] at C
    go_wp2_with fail
    refine (HD9.out.word HA1.out (by have := HL.out; omega) (by have := HL.out; omega) (by have := HL.out; omega) Hcn.out).mono ?_
    rintro e v10 ⟨rfl, hd⟩
    have HD10 := Lib.hid hd
    clear hd C HD9
    have C := And.intro (blk_says HD10.out.d.wd.fx) (blk_says HD10.out.fr)
    simp only [cellsSay, Nat.reduceAdd, and_true] at C
    go_upto_region 12 with fail
    generalize hW4 : World.setCell _ _ _ = v11
    have hb4 : Blk v11 g 30 #[.int .u8 (kd : Nat), .int .u32 (ep : Nat), .int .u32 (se : Nat), .int .u32 (fc : Nat), .int .u32 (fb : Nat), .int .u32 (fn : Nat), .int .u32 (cn : Nat), .bool false, .int .u64 0, .slice none 0 0, .int .i64 0] := by have h := Blk.sets [(6, .int .u32 (cn : Nat))] HD10.out.fr; rw [show sets v10 g [(6, .int .u32 (cn : Nat))] = v11 from hW4] at h; exact h
    have hg4 : v10.grownBy v11 (some g) := by have h := grown_sets g [(6, .int .u32 (cn : Nat))] v10; rw [show sets v10 g [(6, .int .u32 (cn : Nat))] = v11 from hW4] at h; exact h
    have HD11 := Lib.hid (HD10.out.store hg4 hb4)
    clear hb4 hg4 hW4 C HD10
    have C := And.intro (blk_says HD11.out.d.wd.fx) (blk_says HD11.out.fr)
    simp only [cellsSay, Nat.reduceAdd, and_true] at C
    go_wp2_with fail
    refine (HD11.out.next HA1.out 1 (by omega) (by omega) (by have := HL.out; omega) (by have := HL.out; omega) (by have := HL.out; omega) Hcb.out).mono ?_
    rintro e v12 ⟨rfl, hd⟩
    have HD12 := Lib.hid hd
    clear hd C HD11
    have C := And.intro (blk_says HD12.out.d.wd.fx) (blk_says HD12.out.fr)
    simp only [cellsSay, Nat.reduceAdd, and_true] at C
    go_upto_region 14 with fail
    generalize hW4 : World.setCell _ _ _ = v13
    have hb4 : Blk v13 g 30 #[.int .u8 (kd : Nat), .int .u32 (ep : Nat), .int .u32 (se : Nat), .int .u32 (fc : Nat), .int .u32 (fb : Nat), .int .u32 (fn : Nat), .int .u32 (cn : Nat), .bool cl, .int .u64 0, .slice none 0 0, .int .i64 0] := by have h := Blk.sets [(7, .bool cl)] HD12.out.fr; rw [show sets v12 g [(7, .bool cl)] = v13 from hW4] at h; exact h
    have hg4 : v12.grownBy v13 (some g) := by have h := grown_sets g [(7, .bool cl)] v12; rw [show sets v12 g [(7, .bool cl)] = v13 from hW4] at h; exact h
    have HD13 := Lib.hid (HD12.out.store hg4 hb4)
    clear hb4 hg4 hW4 C HD12
    have C := And.intro (blk_says HD13.out.d.wd.fx) (blk_says HD13.out.fr)
    simp only [cellsSay, Nat.reduceAdd, and_true] at C
    go_wp2_with fail
    refine (HD13.out.next HA1.out 8 (by omega) (by omega) (by have := HL.out; omega) (by have := HL.out; omega) (by have := HL.out; omega) Hsm.out).mono ?_
    rintro e v14 ⟨rfl, hd⟩
    have HD14 := Lib.hid hd
    clear hd C HD13
    have C := And.intro (blk_says HD14.out.d.wd.fx) (blk_says HD14.out.fr)
    simp only [cellsSay, Nat.reduceAdd, and_true] at C
    go_upto_region 15 with fail
    generalize hW4 : World.setCell _ _ _ = v15
    have hb4 : Blk v15 g 30 #[.int .u8 (kd : Nat), .int .u32 (ep : Nat), .int .u32 (se : Nat), .int .u32 (fc : Nat), .int .u32 (fb : Nat), .int .u32 (fn : Nat), .int .u32 (cn : Nat), .bool cl, .int .u64 (sm : Nat), .slice none 0 0, .int .i64 0] := by have h := Blk.sets [(8, .int .u64 (sm : Nat))] HD14.out.fr; rw [show sets v14 g [(8, .int .u64 (sm : Nat))] = v15 from hW4] at h; exact h
    have hg4 : v14.grownBy v15 (some g) := by have h := grown_sets g [(8, .int .u64 (sm : Nat))] v14; rw [show sets v14 g [(8, .int .u64 (sm : Nat))] = v15 from hW4] at h; exact h
    have HD15 := Lib.hid (HD14.out.store hg4 hb4)
    clear hb4 hg4 hW4 C HD14
    have C := And.intro (blk_says HD15.out.d.wd.fx) (blk_says HD15.out.fr)
    simp only [cellsSay, Nat.reduceAdd, and_true] at C
    go_wp2_with fail
    refine (HD15.out.next HA1.out 4 (by omega) (by omega) (by have := HL.out; omega) (by have := HL.out; omega) (by have := HL.out; omega) Hm.out).mono ?_
    rintro e v16 ⟨rfl, hd⟩
    have HD16 := Lib.hid hd
    clear hd C HD15
    have C := And.intro (blk_says HD16.out.d.wd.fx) (blk_says HD16.out.fr)
    simp only [cellsSay, Nat.reduceAdd, and_true] at C
    go_upto_region 16 with fail
    generalize hW4 : World.setCell _ _ _ = v17
    have hb4 : Blk v17 g 30 #[.int .u8 (kd : Nat), .int .u32 (ep : Nat), .int .u32 (se : Nat), .int .u32 (fc : Nat), .int .u32 (fb : Nat), .int .u32 (fn : Nat), .int .u32 (cn : Nat), .bool cl, .int .u64 (sm : Nat), .slice none 0 0, .int .i64 (m : Nat)] := by have h := Blk.sets [(10, .int .i64 (m : Nat))] HD16.out.fr; rw [show sets v16 g [(10, .int .i64 (m : Nat))] = v17 from hW4] at h; exact h
    have hg4 : v16.grownBy v17 (some g) := by have h := grown_sets g [(10, .int .i64 (m : Nat))] v16; rw [show sets v16 g [(10, .int .i64 (m : Nat))] = v17 from hW4] at h; exact h
    have HD17 := Lib.hid (HD16.out.store hg4 hb4)
    clear hb4 hg4 hW4 C HD16
    have hr40 : 40 ≤ r := by have := HL.out; omega
    have HC0 := Lib.hid (And.intro HF.out.lt HB1.out.size)
    have C := blk_says HD17.out.fr
    simp only [cellsSay, Nat.reduceAdd, and_true] at C
    go_upto_if 75 with fail
    go_cut [81] (fun s81 wx => ∃ (A8 : Option Addr) (c8 : Nat), Hid (Blk wx g 30 #[.int .u8 (kd : Nat), .int .u32 (ep : Nat), .int .u32 (se : Nat), .int .u32 (fc : Nat), .int .u32 (fb : Nat), .int .u32 (fn : Nat), .int .u32 (cn : Nat), .bool cl, .int .u64 (sm : Nat), .slice A8 R.length c8, .int .i64 (m : Nat)] ∧ OwnB wx w1.heap.size (.slice A8 R.length c8) R ∧ Below w1.heap.size w1 wx))
    case first =>
      by_cases h40 : r = 40
      · have hd3 : decide ((40 : Int) < r) = false := decide_eq_false (by omega)
        have hd4 : decide (40 < r) = false := decide_eq_false (by omega)
        have hd5 : ¬ (40 < r) := by omega
        have hd6 : ¬ ((40 : Int) < r) := by omega
        have hR0 : R = [] := List.eq_nil_of_length_eq_zero (by rw [HRl.out.1, h40])
        have HR0 := Lib.hid hR0
        clear h40 hR0
        go_wp2_with fail
        go_meet
        refine ⟨none, 0, Lib.hid ⟨?_, ?_, HD17.out.d.b⟩⟩
        · rw [HR0.out]; exact HD17.out.fr
        · rw [HR0.out]; exact OwnB.nil _ _
      · have hd3 : decide ((40 : Int) < r) = true := decide_eq_true (by omega)
        have hd4 : decide (40 < r) = true := decide_eq_true (by omega)
        have hd5 : 40 < r := by omega
        have hd6 : (40 : Int) < r := by omega
        have hr40i : (40 : Int) ≤ r := by omega
        have hc40 : 40 < c := by omega
        have HCl : Hid (Calls Try.prog 41 #[.slice (some ⟨p, o + 40, none⟩) (r - 40) (c - 40)] v17 fun e w2 => ∃ A2 c2, e = .returned (.slice A2 R.length c2) ∧ Hid (OwnB w2 v17.heap.size (.slice A2 R.length c2) R ∧ Below v17.heap.size v17 w2)) := Lib.hid (by
          have hb : Bs v17 (some ⟨p, o + 40, none⟩) R := by rw [HRl.out.2]; exact Bs.cut (HA1.out.below HD17.out.d.b) 40 (r - 40)
          rw [show r - 40 = R.length from HRl.out.1.symm]
          exact clone_bytes _ _ R v17 hb (by have := HRl.out.1; have := HL.out; omega))
        clear h40
        go_wp2_with fail
        refine HCl.out.mono ?_
        rintro e v18 ⟨A8, c8, rfl, h8⟩
        have HD18 := Lib.hid (HD17.out.go h8.out.2)
        have HO18 := Lib.hid h8.out.1
        have hgl : g < v17.heap.size := HD17.out.fr.lt
        have hzl : w1.heap.size ≤ v17.heap.size := HD17.out.d.b.size
        clear h8 C
        have C := blk_says HD18.out.fr
        simp only [cellsSay, Nat.reduceAdd, and_true] at C
        go_wp2_with fail
        go_meet
        have hb4 := Blk.sets [(9, .slice A8 R.length c8)] HD18.out.fr
        have hg4 := grown_sets g [(9, .slice A8 R.length c8)] v18
        have HD19 := HD18.out.store hg4 hb4
        exact ⟨A8, c8, Lib.hid ⟨HD19.fr, OwnB.mono (World.ownsRow.kept HO18.out hg4 (.inr (by intro e; have := (World.ownsRow.lt HO18.out _ e).1; omega))) hzl, HD19.d.b⟩⟩
    case rest =>
      obtain ⟨A8, c8, H8⟩ := hcut
      obtain ⟨w20, hw20⟩ : ∃ W, W = wc := ⟨_, rfl⟩
      rw [← hw20] at H8 ⊢
      clear hw20
      have HM := fmay_any ⟨kd, ep, se, fc, fb, fn, cn, cl, sm, R, (m : Nat)⟩ A8 c8 w20 H8.out.2.1.bs HOk.out (by have := HRl.out.1; have := HL.out; simp only; omega)
      simp only [frC] at HM
      replace HM := Lib.hid HM
      have HF20 := Lib.hid (HF.out.below H8.out.2.2 HF.out.lt)
      have HB20 := Lib.hid (HB1.out.trans (H8.out.2.2.mono HB1.out.size))
      have hwg : w.heap.size < g := by have := HC0.out.1; have := HD17.out.zg; omega
      clear C
      rcases Bool.eq_false_or_eq_true mb with hm1 | hm1
      · subst hm1
        by_cases hcb : cb ≤ 1
        · have hk1 : decide ((1 : Int) < cb) = false := decide_eq_false (by omega)
          have hk2 : decide (1 < cb) = false := decide_eq_false (by omega)
          have Hcb1 := Lib.hid hcb
          clear hcb
          have C := And.intro (blk_says HF20.out) (blk_says H8.out.1)
          simp only [cellsSay, Nat.reduceAdd, and_true] at C
          go_wp2_with fail
          refine HM.out.mono ?_
          rintro e w21 ⟨rfl, hb21⟩
          have HF21 := Lib.hid (HF20.out.below hb21 HF20.out.lt)
          have HG21 := Lib.hid (H8.out.1.below hb21 H8.out.1.lt)
          have HO21 := Lib.hid (H8.out.2.1.below hb21)
          have HB21 := Lib.hid (HB20.out.trans (hb21.mono HB20.out.size))
          obtain ⟨my, hmy⟩ : ∃ b, b = mayF ⟨kd, ep, se, fc, fb, fn, cn, cl, sm, R, (m : Nat)⟩ := ⟨_, rfl⟩
          rw [← hmy]
          have Hmy := Lib.hid hmy
          clear C hmy hb21
          have C := And.intro (blk_says HF21.out) (blk_says HG21.out)
          simp only [cellsSay, Nat.reduceAdd, and_true] at C
          rcases Bool.eq_false_or_eq_true my with hm2 | hm2
          · subst hm2
            have HD2 : Hid (decF l = (⟨kd, ep, se, fc, fb, fn, cn, cl, sm, R, (m : Nat)⟩, 0)) := Lib.hid (by rw [HD.out, if_pos]; rw [HGd.out, ← Hmy.out, decide_eq_true Hcb1.out]; rfl)
            go_wp2_with fail
            generalize hW4 : World.setCell _ _ _ = w30
            have hb4 : Blk w30 w.heap.size 30 #[.int .u8 (kd : Nat), .int .u32 (ep : Nat), .int .u32 (se : Nat), .int .u32 (fc : Nat), .int .u32 (fb : Nat), .int .u32 (fn : Nat), .int .u32 (cn : Nat), .bool cl, .int .u64 (sm : Nat), .slice A8 R.length c8, .int .i64 (m : Nat)] := by have h := Blk.sets [(0, .int .u8 (kd : Nat)), (1, .int .u32 (ep : Nat)), (2, .int .u32 (se : Nat)), (3, .int .u32 (fc : Nat)), (4, .int .u32 (fb : Nat)), (5, .int .u32 (fn : Nat)), (6, .int .u32 (cn : Nat)), (7, .bool cl), (8, .int .u64 (sm : Nat)), (9, .slice A8 R.length c8), (10, .int .i64 (m : Nat))] HF21.out; rw [show sets w21 w.heap.size [(0, .int .u8 (kd : Nat)), (1, .int .u32 (ep : Nat)), (2, .int .u32 (se : Nat)), (3, .int .u32 (fc : Nat)), (4, .int .u32 (fb : Nat)), (5, .int .u32 (fn : Nat)), (6, .int .u32 (cn : Nat)), (7, .bool cl), (8, .int .u64 (sm : Nat)), (9, .slice A8 R.length c8), (10, .int .i64 (m : Nat))] = w30 from hW4] at h; exact h
            have hg4 : w21.grownBy w30 (some w.heap.size) := by have h := grown_sets w.heap.size [(0, .int .u8 (kd : Nat)), (1, .int .u32 (ep : Nat)), (2, .int .u32 (se : Nat)), (3, .int .u32 (fc : Nat)), (4, .int .u32 (fb : Nat)), (5, .int .u32 (fn : Nat)), (6, .int .u32 (cn : Nat)), (7, .bool cl), (8, .int .u64 (sm : Nat)), (9, .slice A8 R.length c8), (10, .int .i64 (m : Nat))] w21; rw [show sets w21 w.heap.size [(0, .int .u8 (kd : Nat)), (1, .int .u32 (ep : Nat)), (2, .int .u32 (se : Nat)), (3, .int .u32 (fc : Nat)), (4, .int .u32 (fb : Nat)), (5, .int .u32 (fn : Nat)), (6, .int .u32 (cn : Nat)), (7, .bool cl), (8, .int .u64 (sm : Nat)), (9, .slice A8 R.length c8), (10, .int .i64 (m : Nat))] = w30 from hW4] at h; exact h
            clear C hW4
            have C := blk_says hb4
            simp only [cellsSay, Nat.reduceAdd, and_true] at C
            have HOF : Hid (OwnB w30 w.heap.size (.slice A8 R.length c8) R) := Lib.hid (OwnB.mono (World.ownsRow.kept HO21.out hg4 (.inr (by intro e; have := (World.ownsRow.lt HO21.out _ e).1; have := HC0.out.1; omega))) (Nat.le_of_lt HC0.out.1))
            refine bodyPost_ret (v := .tuple #[.agg #[.int .u8 (kd : Nat), .int .u32 (ep : Nat), .int .u32 (se : Nat), .int .u32 (fc : Nat), .int .u32 (fb : Nat), .int .u32 (fn : Nat), .int .u32 (cn : Nat), .bool cl, .int .u64 (sm : Nat), .slice A8 R.length c8, .int .i64 (m : Nat)], .int .u16 0]) (by simp [results, Try.results19, go_sem, C]) rfl ⟨A8, c8, by rw [HD2.out]; rfl, Lib.hid ⟨by rw [HD2.out]; exact HOF.out, ?_⟩⟩
            exact HB21.out.grown hg4 HB21.out.size (fun k e => by cases e; exact Nat.le_refl _)
          · subst hm2
            have HD2 : Hid (decF l = (zeroF, 70)) := Lib.hid (by rw [HD.out, if_neg]; rw [HGd.out, ← Hmy.out]; simp)
            go_wp2_with fail
            generalize hW4 : World.setCell _ _ _ = w30
            have hb4 : Blk w30 w.heap.size 30 #[.int .u8 0, .int .u32 0, .int .u32 0, .int .u32 0, .int .u32 0, .int .u32 0, .int .u32 0, .bool false, .int .u64 0, .slice none 0 0, .int .i64 0] := by have h := Blk.sets [(0, .int .u8 0), (1, .int .u32 0), (2, .int .u32 0), (3, .int .u32 0), (4, .int .u32 0), (5, .int .u32 0), (6, .int .u32 0), (7, .bool false), (8, .int .u64 0), (9, .slice none 0 0), (10, .int .i64 0)] HF21.out; rw [show sets w21 w.heap.size [(0, .int .u8 0), (1, .int .u32 0), (2, .int .u32 0), (3, .int .u32 0), (4, .int .u32 0), (5, .int .u32 0), (6, .int .u32 0), (7, .bool false), (8, .int .u64 0), (9, .slice none 0 0), (10, .int .i64 0)] = w30 from hW4] at h; exact h
            have hg4 : w21.grownBy w30 (some w.heap.size) := by have h := grown_sets w.heap.size [(0, .int .u8 0), (1, .int .u32 0), (2, .int .u32 0), (3, .int .u32 0), (4, .int .u32 0), (5, .int .u32 0), (6, .int .u32 0), (7, .bool false), (8, .int .u64 0), (9, .slice none 0 0), (10, .int .i64 0)] w21; rw [show sets w21 w.heap.size [(0, .int .u8 0), (1, .int .u32 0), (2, .int .u32 0), (3, .int .u32 0), (4, .int .u32 0), (5, .int .u32 0), (6, .int .u32 0), (7, .bool false), (8, .int .u64 0), (9, .slice none 0 0), (10, .int .i64 0)] = w30 from hW4] at h; exact h
            clear C hW4
            have C := blk_says hb4
            simp only [cellsSay, Nat.reduceAdd, and_true] at C
            refine bodyPost_ret (v := .tuple #[.agg #[.int .u8 0, .int .u32 0, .int .u32 0, .int .u32 0, .int .u32 0, .int .u32 0, .int .u32 0, .bool false, .int .u64 0, .slice none 0 0, .int .i64 0], .int .u16 70]) (by simp [results, Try.results19, go_sem, C]) rfl ⟨none, 0, by rw [HD2.out]; rfl, Lib.hid ⟨by rw [HD2.out]; exact OwnB.nil _ _, ?_⟩⟩
            exact HB21.out.grown hg4 HB21.out.size (fun k e => by cases e; exact Nat.le_refl _)
        · have hk1 : decide ((1 : Int) < cb) = true := decide_eq_true (by omega)
          have hk2 : decide (1 < cb) = true := decide_eq_true (by omega)
          have HD2 : Hid (decF l = (zeroF, 70)) := Lib.hid (by rw [HD.out, if_neg]; rw [HGd.out, decide_eq_false hcb]; simp)
          clear hcb
          have C := And.intro (blk_says HF20.out) (blk_says H8.out.1)
          simp only [cellsSay, Nat.reduceAdd, and_true] at C
          go_wp2_with fail
          generalize hW4 : World.setCell _ _ _ = w30
          have hb4 : Blk w30 w.heap.size 30 #[.int .u8 0, .int .u32 0, .int .u32 0, .int .u32 0, .int .u32 0, .int .u32 0, .int .u32 0, .bool false, .int .u64 0, .slice none 0 0, .int .i64 0] := by have h := Blk.sets [(0, .int .u8 0), (1, .int .u32 0), (2, .int .u32 0), (3, .int .u32 0), (4, .int .u32 0), (5, .int .u32 0), (6, .int .u32 0), (7, .bool false), (8, .int .u64 0), (9, .slice none 0 0), (10, .int .i64 0)] HF20.out; rw [show sets w20 w.heap.size [(0, .int .u8 0), (1, .int .u32 0), (2, .int .u32 0), (3, .int .u32 0), (4, .int .u32 0), (5, .int .u32 0), (6, .int .u32 0), (7, .bool false), (8, .int .u64 0), (9, .slice none 0 0), (10, .int .i64 0)] = w30 from hW4] at h; exact h
          have hg4 : w20.grownBy w30 (some w.heap.size) := by have h := grown_sets w.heap.size [(0, .int .u8 0), (1, .int .u32 0), (2, .int .u32 0), (3, .int .u32 0), (4, .int .u32 0), (5, .int .u32 0), (6, .int .u32 0), (7, .bool false), (8, .int .u64 0), (9, .slice none 0 0), (10, .int .i64 0)] w20; rw [show sets w20 w.heap.size [(0, .int .u8 0), (1, .int .u32 0), (2, .int .u32 0), (3, .int .u32 0), (4, .int .u32 0), (5, .int .u32 0), (6, .int .u32 0), (7, .bool false), (8, .int .u64 0), (9, .slice none 0 0), (10, .int .i64 0)] = w30 from hW4] at h; exact h
          clear C hW4
          have C := blk_says hb4
          simp only [cellsSay, Nat.reduceAdd, and_true] at C
          refine bodyPost_ret (v := .tuple #[.agg #[.int .u8 0, .int .u32 0, .int .u32 0, .int .u32 0, .int .u32 0, .int .u32 0, .int .u32 0, .bool false, .int .u64 0, .slice none 0 0, .int .i64 0], .int .u16 70]) (by simp [results, Try.results19, go_sem, C]) rfl ⟨none, 0, by rw [HD2.out]; rfl, Lib.hid ⟨by rw [HD2.out]; exact OwnB.nil _ _, ?_⟩⟩
          exact HB20.out.grown hg4 HB20.out.size (fun k e => by cases e; exact Nat.le_refl _)
      · subst hm1
        have HD2 : Hid (decF l = (zeroF, 70)) := Lib.hid (by rw [HD.out, if_neg]; rw [HGd.out]; simp)
        have C := And.intro (blk_says HF20.out) (blk_says H8.out.1)
        simp only [cellsSay, Nat.reduceAdd, and_true] at C
        go_wp2_with fail
        generalize hW4 : World.setCell _ _ _ = w30
        have hb4 : Blk w30 w.heap.size 30 #[.int .u8 0, .int .u32 0, .int .u32 0, .int .u32 0, .int .u32 0, .int .u32 0, .int .u32 0, .bool false, .int .u64 0, .slice none 0 0, .int .i64 0] := by have h := Blk.sets [(0, .int .u8 0), (1, .int .u32 0), (2, .int .u32 0), (3, .int .u32 0), (4, .int .u32 0), (5, .int .u32 0), (6, .int .u32 0), (7, .bool false), (8, .int .u64 0), (9, .slice none 0 0), (10, .int .i64 0)] HF20.out; rw [show sets w20 w.heap.size [(0, .int .u8 0), (1, .int .u32 0), (2, .int .u32 0), (3, .int .u32 0), (4, .int .u32 0), (5, .int .u32 0), (6, .int .u32 0), (7, .bool false), (8, .int .u64 0), (9, .slice none 0 0), (10, .int .i64 0)] = w30 from hW4] at h; exact h
        have hg4 : w20.grownBy w30 (some w.heap.size) := by have h := grown_sets w.heap.size [(0, .int .u8 0), (1, .int .u32 0), (2, .int .u32 0), (3, .int .u32 0), (4, .int .u32 0), (5, .int .u32 0), (6, .int .u32 0), (7, .bool false), (8, .int .u64 0), (9, .slice none 0 0), (10, .int .i64 0)] w20; rw [show sets w20 w.heap.size [(0, .int .u8 0), (1, .int .u32 0), (2, .int .u32 0), (3, .int .u32 0), (4, .int .u32 0), (5, .int .u32 0), (6, .int .u32 0), (7, .bool false), (8, .int .u64 0), (9, .slice none 0 0), (10, .int .i64 0)] = w30 from hW4] at h; exact h
        clear C hW4
        have C := blk_says hb4
        simp only [cellsSay, Nat.reduceAdd, and_true] at C
        refine bodyPost_ret (v := .tuple #[.agg #[.int .u8 0, .int .u32 0, .int .u32 0, .int .u32 0, .int .u32 0, .int .u32 0, .int .u32 0, .bool false, .int .u64 0, .slice none 0 0, .int .i64 0], .int .u16 70]) (by simp [results, Try.results19, go_sem, C]) rfl ⟨none, 0, by rw [HD2.out]; rfl, Lib.hid ⟨by rw [HD2.out]; exact OwnB.nil _ _, ?_⟩⟩
        exact HB20.out.grown hg4 HB20.out.size (fun k e => by cases e; exact Nat.le_refl _)

end Go.Proofs.Ytpedobpbpomkaaa
