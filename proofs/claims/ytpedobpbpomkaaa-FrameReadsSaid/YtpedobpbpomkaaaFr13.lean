/- Layer 7: Decode of the program, where the sum is wrong. -/
import Derived.Test.YtpedobpbpomkaaaFr12
set_option linter.unusedSimpArgs false
set_option linter.unusedVariables false
namespace Go.Proofs.Ytpedobpbpomkaaa
open Go.RowKit
set_option maxRecDepth 100000

set_option maxHeartbeats 8000000 in
theorem fdec_sum (A : Option Addr) (c : Nat) (l : List UInt8) (w : World) (hA : Bs w A l) (hc : l.length ≤ c) (h44 : 44 ≤ l.length) (h96 : l.length ≤ 4096) (hsum : crcL (frontOf l) ≠ num (backOf l)) :
    Calls Try.prog 19 #[.slice A l.length c] w fun e w' => e = .returned (.tuple #[.agg (frC zeroF none 0), .int .u16 71]) ∧ Below w.heap.size w w' := by
  obtain ⟨p, o, rfl⟩ := hA.cutZ (by omega)
  obtain ⟨r, hr⟩ : ∃ r, r = l.length - 4 := ⟨_, rfl⟩
  have hrw : IntKind.i64.wrap ((l.length : Int) - 4) = (r : Int) := by rw [IntKind.wrap_i64]; omega
  have hrc : (r : Int) ≤ c := by omega
  have hrc2 : r ≤ c := by omega
  have hrc3 : r < c := by omega
  have hrl : (r : Int) ≤ l.length := by omega
  have hrl2 : r ≤ l.length := by omega
  have hlr : l.length - r = 4 := by omega
  have hlr2 : (l.length : Int) - r = 4 := by omega
  have hd : decide ((l.length : Int) < 44) = false := decide_eq_false (by omega)
  have hd2 : decide ((4096 : Int) < l.length) = false := decide_eq_false (by omega)
  have hbl : (backOf l).length = 4 := by unfold backOf; rw [List.length_drop]; omega
  have hpb : part (backOf l) 0 4 = backOf l := by unfold part; exact List.take_of_length_le (by rw [List.drop_zero, hbl]; exact Nat.le_refl _)
  have hfl : (frontOf l).length = r := by unfold frontOf; rw [List.length_take]; omega
  have hbk : backOf l = (l.drop r).take 4 := by unfold backOf; rw [← hr]; exact (List.take_of_length_le (by rw [List.length_drop]; omega)).symm
  obtain ⟨w1, hw1⟩ : ∃ w1, w1 = w.alloc (.cells #[.int .u8 0, .int .u32 0, .int .u32 0, .int .u32 0, .int .u32 0, .int .u32 0, .int .u32 0, .bool false, .int .u64 0, .slice none 0 0, .int .i64 0] 30) := ⟨_, rfl⟩
  have HF := Lib.hid (show Blk w1 w.heap.size 30 #[.int .u8 0, .int .u32 0, .int .u32 0, .int .u32 0, .int .u32 0, .int .u32 0, .int .u32 0, .bool false, .int .u64 0, .slice none 0 0, .int .i64 0] by rw [hw1]; exact Blk.new _ _ _)
  have HB1 := Lib.hid (show Below w.heap.size w w1 by rw [hw1]; exact below_alloc _ _)
  have HA1 := Lib.hid (show Bs w1 (some ⟨p, o, none⟩) l from hA.below HB1.out)
  obtain ⟨n4, hn4⟩ : ∃ n, n = num (backOf l) := ⟨_, rfl⟩
  obtain ⟨s4, hs4⟩ : ∃ n, n = crcL (frontOf l) := ⟨_, rfl⟩
  have us : IntKind.u64.wrap (s4 : Int) = (s4 : Int) := by have := crcL_lt (frontOf l); rw [IntKind.wrap_u64]; omega
  have HNw : Hid (∀ W op oq, Rg w1 W (.slice (some ⟨p, o, none⟩) r c) (.slice (some ⟨p, o + r, none⟩) 4 (c - r)) none op oq → Calls Try.prog 31 #[] W fun e w' => e = .returned (.pointer (some ⟨W.heap.size, 0, none⟩)) ∧ Rg w1 w' (.slice (some ⟨p, o, none⟩) r c) (.slice (some ⟨p, o + r, none⟩) 4 (c - r)) (some W.heap.size) op oq) := Lib.hid (fun W op oq h => (crcNew_any W).mono (by rintro e w5 ⟨he, ht, hb⟩; exact ⟨he, h.new hb ht⟩))
  have HSm : Hid (∀ W g p2 oq, Rg w1 W (.slice (some ⟨p, o, none⟩) r c) (.slice (some ⟨p, o + r, none⟩) 4 (c - r)) (some g) (some p2) oq → Calls Try.prog 32 #[.pointer (some ⟨g, 0, none⟩), .slice (some ⟨p2, 0, none⟩) 1 1] W fun e w' => e = .returned (.int .u32 (s4 : Nat)) ∧ Rg w1 w' (.slice (some ⟨p, o, none⟩) r c) (.slice (some ⟨p, o + r, none⟩) 4 (c - r)) none none oq) := Lib.hid (fun W g p2 oq h => by
    have hrow := (h.p p2 rfl).1
    rw [← hfl] at hrow
    refine (crcSum_any g (some ⟨p2, 0, none⟩) 1 [frontOf l] W (.inl (h.t g rfl).1) (lsB hrow (h.gp g p2 rfl rfl).symm ((bs_takeN HA1.out _).past h.b (h.t g rfl).2)) (by simp) (by simp; omega)).mono ?_
    rintro e w5 ⟨x, hx, rfl, -, ht⟩
    have hx := hx.out
    rw [show ([frontOf l] : List (List UInt8)).flatten = frontOf l by simp, ← hs4] at hx
    exact ⟨by rw [hx], h.summed ht⟩)
  have HNm : Hid (∀ W og op, Rg w1 W (.slice (some ⟨p, o, none⟩) r c) (.slice (some ⟨p, o + r, none⟩) 4 (c - r)) og op none → Calls Try.prog 39 #[(.slice (some ⟨p, o + r, none⟩) 4 (c - r))] W fun e w' => ∃ q1 q2, e = .returned (.func (.func 55) #[] #[.pointer (some ⟨q1, 0, none⟩), .pointer (some ⟨q2, 0, none⟩)]) ∧ Rg w1 w' (.slice (some ⟨p, o, none⟩) r c) (.slice (some ⟨p, o + r, none⟩) 4 (c - r)) og op (some (q1, q2))) := Lib.hid (fun W og op h => (numbers_new _ _ _ W).mono (by rintro e w5 ⟨q1, q2, he, hh⟩; exact ⟨q1, q2, he, h.nums hh.out⟩))
  have HNx : Hid (∀ W og op q1 q2, Rg w1 W (.slice (some ⟨p, o, none⟩) r c) (.slice (some ⟨p, o + r, none⟩) 4 (c - r)) og op (some (q1, q2)) → Calls Try.prog 55 #[.int .i64 4, .pointer (some ⟨q1, 0, none⟩), .pointer (some ⟨q2, 0, none⟩)] W fun e w' => e = .returned (.int .u64 (n4 : Nat)) ∧ Rg w1 w' (.slice (some ⟨p, o, none⟩) r c) (.slice (some ⟨p, o + r, none⟩) 4 (c - r)) og op none) := Lib.hid (fun W og op q1 q2 h => by
    have hn := (h.q (q1, q2) rfl).1
    rw [← hbl] at hn
    have hb : Bs W (some ⟨p, o + r, none⟩) (backOf l) := by rw [hbk]; exact Bs.cut (HA1.out.below h.b) r 4
    have := fnext_any 4 0 q1 q2 (some ⟨p, o + r, none⟩) (c - r) (backOf l) W hn hb (by omega) (by omega) (by omega) (by omega) (by omega)
    rw [hpb, ← hn4] at this
    refine this.mono ?_
    rintro e w5 ⟨he, -, hg⟩
    exact ⟨he, h.call hg⟩)
  have HG := Lib.hid (Rg.start w1 (.slice (some ⟨p, o, none⟩) r c) (.slice (some ⟨p, o + r, none⟩) 4 (c - r)))
  have hne : ((s4 : Int) != (n4 : Int)) = true := by rw [hn4, hs4]; simpa using fun e => hsum (by omega)
  obtain ⟨bn, hbn⟩ : ∃ b, b = true := ⟨_, rfl⟩
  rw [← hbn] at hne
  have HBn := Lib.hid hbn
  have HR := Lib.hid frC_zero
  clear hn4 hs4 hpb hbk hbl hfl hr hsum hA hc hbn
  go_enter Try.func19, Try.ntmps19
  go_upto_region 4 with fail
  rw [← hw1]
  clear hw1
  go_cut [34] (fun s34 wx => s34 = .bool bn ∧ Hid (Below w1.heap.size w1 wx))
  case first =>
    go_region_with (first
      | (go_at_call 31; refine (HNw.out _ _ _ (by first | exact HG.out | exact HG.out.drew | exact HG.out.alloc | exact HG.out.alloc.drew | exact HG.out.drew.alloc | exact HG.out.drew.alloc.drew | exact HG.out.drew.drew | exact HG.out.drew.drew.alloc | exact HG.out.drew.drew.alloc.drew | exact HG.out.drew.drew.drew)).mono ?_; rintro e wN ⟨rfl, h⟩; try simp at h; replace HG := Lib.hid h; clear h)
      | (go_at_call 32; refine (HSm.out _ _ _ _ (by first | exact HG.out | exact HG.out.drew | exact HG.out.alloc | exact HG.out.alloc.drew | exact HG.out.drew.alloc | exact HG.out.drew.alloc.drew | exact HG.out.drew.drew | exact HG.out.drew.drew.alloc | exact HG.out.drew.drew.alloc.drew | exact HG.out.drew.drew.drew)).mono ?_; rintro e wS ⟨rfl, h⟩; replace HG := Lib.hid h; clear h)
      | (go_at_call 39; refine (HNm.out _ _ _ (by first | exact HG.out | exact HG.out.drew | exact HG.out.alloc | exact HG.out.alloc.drew | exact HG.out.drew.alloc | exact HG.out.drew.alloc.drew | exact HG.out.drew.drew | exact HG.out.drew.drew.alloc | exact HG.out.drew.drew.alloc.drew | exact HG.out.drew.drew.drew)).mono ?_; rintro e wM ⟨q1, q2, rfl, h⟩; replace HG := Lib.hid h; clear h)
      | (go_at_call 55; refine (HNx.out _ _ _ _ _ (by first | exact HG.out | exact HG.out.drew | exact HG.out.alloc | exact HG.out.alloc.drew | exact HG.out.drew.alloc | exact HG.out.drew.alloc.drew | exact HG.out.drew.drew | exact HG.out.drew.drew.alloc | exact HG.out.drew.drew.alloc.drew | exact HG.out.drew.drew.drew)).mono ?_; rintro e wX ⟨rfl, h⟩; replace HG := Lib.hid h; clear h))
    all_goals
      go_wp2_with fail
      go_meet
      exact ⟨rfl, Lib.hid (Rg.b (by first | exact HG.out | exact HG.out.drew | exact HG.out.alloc | exact HG.out.alloc.drew | exact HG.out.drew.alloc | exact HG.out.drew.alloc.drew | exact HG.out.drew.drew | exact HG.out.drew.drew.alloc | exact HG.out.drew.drew.alloc.drew | exact HG.out.drew.drew.drew))⟩
  case rest =>
    obtain ⟨rfl, hb2⟩ := hcut
    have hbn := HBn.out
    subst hbn
    have HF2 := Lib.hid (HF.out.below hb2.out HF.out.lt)
    have C := blk_says HF2.out
    simp only [cellsSay, Nat.reduceAdd, and_true] at C
    have HB2 := Lib.hid (HB1.out.trans (hb2.out.mono HB1.out.size))
    go_wp2_with fail
    generalize hW4 : World.setCell _ _ _ = w4
    have hb4 : Blk w4 w.heap.size 30 #[.int .u8 0, .int .u32 0, .int .u32 0, .int .u32 0, .int .u32 0, .int .u32 0, .int .u32 0, .bool false, .int .u64 0, .slice none 0 0, .int .i64 0] := by have h := Blk.sets [(0, .int .u8 0), (1, .int .u32 0), (2, .int .u32 0), (3, .int .u32 0), (4, .int .u32 0), (5, .int .u32 0), (6, .int .u32 0), (7, .bool false), (8, .int .u64 0), (9, .slice none 0 0), (10, .int .i64 0)] HF2.out; rw [show sets wc w.heap.size [(0, .int .u8 0), (1, .int .u32 0), (2, .int .u32 0), (3, .int .u32 0), (4, .int .u32 0), (5, .int .u32 0), (6, .int .u32 0), (7, .bool false), (8, .int .u64 0), (9, .slice none 0 0), (10, .int .i64 0)] = w4 from hW4] at h; exact h
    have hg4 := grown_sets w.heap.size [(0, .int .u8 0), (1, .int .u32 0), (2, .int .u32 0), (3, .int .u32 0), (4, .int .u32 0), (5, .int .u32 0), (6, .int .u32 0), (7, .bool false), (8, .int .u64 0), (9, .slice none 0 0), (10, .int .i64 0)] wc
    rw [show sets wc w.heap.size [(0, .int .u8 0), (1, .int .u32 0), (2, .int .u32 0), (3, .int .u32 0), (4, .int .u32 0), (5, .int .u32 0), (6, .int .u32 0), (7, .bool false), (8, .int .u64 0), (9, .slice none 0 0), (10, .int .i64 0)] = w4 from hW4] at hg4
    clear C hW4
    have C := blk_says hb4
    simp only [cellsSay, Nat.reduceAdd, and_true] at C
    refine bodyPost_ret (v := .tuple #[.agg #[.int .u8 0, .int .u32 0, .int .u32 0, .int .u32 0, .int .u32 0, .int .u32 0, .int .u32 0, .bool false, .int .u64 0, .slice none 0 0, .int .i64 0], .int .u16 71]) (by simp [results, Try.results19, go_sem, C]) rfl ⟨by rw [HR.out], ?_⟩
    exact HB2.out.grown hg4 HB2.out.size (fun k e => by cases e; exact Nat.le_refl _)

end Go.Proofs.Ytpedobpbpomkaaa
