/- Layer 7: Decode of the document, of enough bytes. -/
import Derived.Test.YtpedobpbpomkaaaFr8
set_option linter.unusedSimpArgs false
set_option linter.unusedVariables false
namespace Go.Proofs.Ytpedobpbpomkaaa
open Go.RowKit
set_option maxRecDepth 100000

set_option maxHeartbeats 4000000 in
theorem rfdec_sum (A : Option Addr) (c : Nat) (l : List UInt8) (w : World) (hA : Bs w A l) (hc : l.length ≤ c) (h44 : 44 ≤ l.length) (h96 : l.length ≤ 4096) (hsum : crcL (frontOf l) ≠ num (backOf l)) :
    Calls Try.prog 20 #[.slice A l.length c] w fun e w' => e = .returned (.tuple #[.agg (frC zeroF none 0), .int .i64 71]) ∧ Below w.heap.size w w' := by
  obtain ⟨p, o, rfl⟩ := hA.cutZ (by omega)
  obtain ⟨r, hr⟩ : ∃ r, r = l.length - 4 := ⟨_, rfl⟩
  have hrw : IntKind.i64.wrap ((l.length : Int) - 4) = (r : Int) := by rw [IntKind.wrap_i64]; omega
  have hrc : (r : Int) ≤ c := by omega
  have hrc2 : r ≤ c := by omega
  have hd : decide ((l.length : Int) < 44) = false := decide_eq_false (by omega)
  have hd2 : decide ((4096 : Int) < l.length) = false := decide_eq_false (by omega)
  have hback : part l r 4 = backOf l := by unfold part backOf; rw [← hr]; exact List.take_of_length_le (by rw [List.length_drop]; omega)
  have hfl : (frontOf l).length = r := by unfold frontOf; rw [List.length_take]; omega
  obtain ⟨w1, hw1⟩ : ∃ w1, w1 = w.alloc (.cells #[.int .u8 0, .int .u32 0, .int .u32 0, .int .u32 0, .int .u32 0, .int .u32 0, .int .u32 0, .bool false, .int .u64 0, .slice none 0 0, .int .i64 0] 30) := ⟨_, rfl⟩
  have HF := Lib.hid (show Blk w1 w.heap.size 30 #[.int .u8 0, .int .u32 0, .int .u32 0, .int .u32 0, .int .u32 0, .int .u32 0, .int .u32 0, .bool false, .int .u64 0, .slice none 0 0, .int .i64 0] by rw [hw1]; exact Blk.new _ _ _)
  have HB1 := Lib.hid (show Below w.heap.size w w1 by rw [hw1]; exact below_alloc _ _)
  have HA1 := Lib.hid (show Bs w1 (some ⟨p, o, none⟩) l from hA.below HB1.out)
  have HA := Lib.hid hA
  obtain ⟨n4, hn4⟩ : ∃ n, n = num (backOf l) := ⟨_, rfl⟩
  obtain ⟨s4, hs4⟩ : ∃ n, n = crcL (frontOf l) := ⟨_, rfl⟩
  have us : IntKind.u64.wrap (s4 : Int) = (s4 : Int) := by have := crcL_lt (frontOf l); rw [IntKind.wrap_u64]; omega
  have HN : Hid (∀ W, Below w1.heap.size w1 W → Calls Try.prog 42 #[.slice (some ⟨p, o, none⟩) l.length c, .int .i64 (r : Nat), .int .i64 (4 : Nat)] W fun e w' => e = .returned (.int .u64 (n4 : Nat)) ∧ w' = W) := Lib.hid (fun W hW => by
    have := rnumber_any r 4 (some ⟨p, o, none⟩) c l W (HA1.out.below hW) (by omega) (by omega) (by omega)
    rw [hback, ← hn4] at this; exact this)
  have HS : Hid (∀ W, Below w1.heap.size w1 W → Calls Try.prog 34 #[.slice (some ⟨p, o, none⟩) r c] W fun e w' => e = .returned (.int .u32 (s4 : Nat)) ∧ w' = W) := Lib.hid (fun W hW => by
    have := refSum_eq (some ⟨p, o, none⟩) c (frontOf l) W (bs_takeN (HA1.out.below hW) _) (by omega)
    rw [hfl, ← hs4] at this; exact this)
  have HB0 := Lib.hid (Below.refl w1.heap.size w1)
  have hne : ((n4 : Int) != (s4 : Int)) = true := by rw [hn4, hs4]; simpa using fun e => hsum (by omega)
  have HR := Lib.hid frC_zero
  clear hn4 hs4 hback hfl hr hsum hA hc
  go_enter Try.func20, Try.ntmps20
  go_wp2_with fail
  rw [← hw1]
  clear hw1
  go_quiet ((first | (go_at_call 42; exact Calls.quiet_of_same (HN.out _ (below_drewN HB0.out _))) | (go_at_call 34; exact Calls.quiet_of_same (HS.out _ (below_drewN HB0.out _)))))
  obtain ⟨w2, hw2⟩ : ∃ W, W = w1.drewN nq := ⟨_, rfl⟩
  have HF2 := Lib.hid (show Blk w2 w.heap.size 30 #[.int .u8 0, .int .u32 0, .int .u32 0, .int .u32 0, .int .u32 0, .int .u32 0, .int .u32 0, .bool false, .int .u64 0, .slice none 0 0, .int .i64 0] by rw [hw2]; exact HF.out)
  have HB2 := Lib.hid (show Below w.heap.size w w2 by rw [hw2]; exact below_drewN HB1.out _)
  rw [← hw2]
  clear hw2
  have C := blk_says HF2.out
  simp only [cellsSay, Nat.reduceAdd, and_true] at C
  go_wp2_with fail
  generalize hW4 : World.setCell _ _ _ = w4
  have hb4 : Blk w4 w.heap.size 30 #[.int .u8 0, .int .u32 0, .int .u32 0, .int .u32 0, .int .u32 0, .int .u32 0, .int .u32 0, .bool false, .int .u64 0, .slice none 0 0, .int .i64 0] := by have h := Blk.sets [(0, .int .u8 0), (1, .int .u32 0), (2, .int .u32 0), (3, .int .u32 0), (4, .int .u32 0), (5, .int .u32 0), (6, .int .u32 0), (7, .bool false), (8, .int .u64 0), (9, .slice none 0 0), (10, .int .i64 0)] HF2.out; rw [show sets w2 w.heap.size [(0, .int .u8 0), (1, .int .u32 0), (2, .int .u32 0), (3, .int .u32 0), (4, .int .u32 0), (5, .int .u32 0), (6, .int .u32 0), (7, .bool false), (8, .int .u64 0), (9, .slice none 0 0), (10, .int .i64 0)] = w4 from hW4] at h; exact h
  have hg4 : w2.grownBy w4 (some w.heap.size) := by have h := grown_sets w.heap.size [(0, .int .u8 0), (1, .int .u32 0), (2, .int .u32 0), (3, .int .u32 0), (4, .int .u32 0), (5, .int .u32 0), (6, .int .u32 0), (7, .bool false), (8, .int .u64 0), (9, .slice none 0 0), (10, .int .i64 0)] w2; rw [show sets w2 w.heap.size [(0, .int .u8 0), (1, .int .u32 0), (2, .int .u32 0), (3, .int .u32 0), (4, .int .u32 0), (5, .int .u32 0), (6, .int .u32 0), (7, .bool false), (8, .int .u64 0), (9, .slice none 0 0), (10, .int .i64 0)] = w4 from hW4] at h; exact h
  clear C hW4
  have C := blk_says hb4
  simp only [cellsSay, Nat.reduceAdd, and_true] at C
  refine bodyPost_ret (v := .tuple #[.agg #[.int .u8 0, .int .u32 0, .int .u32 0, .int .u32 0, .int .u32 0, .int .u32 0, .int .u32 0, .bool false, .int .u64 0, .slice none 0 0, .int .i64 0], .int .i64 71]) (by simp [results, Try.results20, go_sem, C]) rfl ⟨by rw [HR.out], ?_⟩
  exact HB2.out.grown hg4 HB2.out.size (fun k e => by cases e; exact Nat.le_refl _)

end Go.Proofs.Ytpedobpbpomkaaa
