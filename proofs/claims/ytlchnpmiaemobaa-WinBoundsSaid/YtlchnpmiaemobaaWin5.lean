/- Layer 13: what is done with one piece when pieces are removed. -/
import Derived.Test.YtlchnpmiaemobaaWin4
set_option linter.unusedSimpArgs false
set_option linter.unusedVariables false
namespace Go.Proofs.Ytlchnpmiaemobaa
open Go.RowKit
set_option maxRecDepth 100000

theorem rem1_ack (s u q1 q2 g : Nat) (se a0 a1 a2 : Nat) (b n : Int) (V : Value) (p : PC) (w : World) (hs : Blk w s 27 #[.int .u32 se]) (hu : Blk w u 29 #[.int .u32 a0, .int .u32 a1, .int .u32 a2])
    (h1 : Blk w q1 36 #[.func (.func 38) #[] #[.pointer (some ⟨s, 0, none⟩), .pointer (some ⟨u, 0, none⟩)]]) (h2 : Blk w q2 24 #[.pointer (some ⟨g, 0, none⟩)])
    (h : Blk w g 78 #[.int .i64 b, .int .i64 n, V]) (hp : 0 ≤ p.n ∧ p.n ≤ n) (hn : n ≤ 1000000000000) :
    Calls Try.prog 54 #[.agg (encP p).toArray, .pointer (some ⟨q1, 0, none⟩), .pointer (some ⟨q2, 0, none⟩)] w fun e w' => e = .returned (.bool (goneA se a0 a2 p)) ∧
      ((goneA se a0 a2 p = false ∧ Below w.heap.size w w') ∨ (goneA se a0 a2 p = true ∧ ∃ w2, Below w.heap.size w w2 ∧ w' = w2.setCell ⟨g, 1, none⟩ (.int .i64 (n - p.n)))) := by
  obtain ⟨ps, f0, f1, f2, t0, t1, t2, pn⟩ := p
  have K := ((((((Qs.zero w).cons (k := qB _ _ _) hs).cons (k := qB _ _ _) hu).cons (k := qB _ _ _) h1).cons (k := qB _ _ _) h2).cons (k := qB _ _ _) h).box #[.int .u32 ps, .int .u32 f0, .int .u32 f1, .int .u32 f2, .int .u32 t0, .int .u32 t1, .int .u32 t2, .int .i64 pn] 31
  have HK := Lib.hid K
  have C := K.says
  simp only [sayAll, cellsSay, qB, qW, qR, qZ, Nat.reduceAdd, and_true, true_and] at C
  dsimp only at hp
  have hA := fun (W : World) (hs : Blk W s 27 #[.int .u32 se]) (hu : Blk W u 29 #[.int .u32 a0, .int .u32 a1, .int .u32 a2]) => ack1_any s u se a0 a1 a2 ⟨ps, f0, f1, f2, t0, t1, t2, pn⟩ W hs hu
  generalize goneA se a0 a2 ⟨ps, f0, f1, f2, t0, t1, t2, pn⟩ = r at hA ⊢
  simp only [encP] at hA ⊢
  have HA := Lib.hid hA
  clear K hs hu h1 h2 h hA
  go_enter Try.func54, Try.ntmps54
  go_wp2_with fail
  refine (HA.out _ (HK.out.blk 5) (HK.out.blk 4)).mono ?_
  rintro e w1 ⟨rfl, b1⟩
  have HK1 := Lib.hid (HK.out.go b1)
  clear C b1 HK
  have C := HK1.out.says
  simp only [sayAll, cellsSay, qB, qW, qR, qZ, Nat.reduceAdd, and_true, true_and] at C
  cases r
  · go_wp2_with fail
    go_ret
    first | exact ⟨rfl, .inl ⟨rfl, HK1.out.top 6⟩⟩ | exact ⟨rfl, HK1.out.top 6⟩
  · have hw : IntKind.i64.wrap (-pn) = -pn := by rw [IntKind.wrap_i64]; omega
    go_wp2_with fail
    go_region_with (go_at_call 40; refine (aadd_any ⟨g, 1, none⟩ n (-pn) _ ((HK1.out.drew.blk 1).cell 1) ((HK1.out.drew.blk 1).frozen 1) (by omega)).mono ?_; rintro e w9 ⟨rfl, rfl⟩)
    all_goals
      go_wp2_with fail
      go_ret
      exact ⟨rfl, w1.drew, HK1.out.drew.top 6, by rw [Int.sub_eq_add_neg]; rfl⟩

theorem rem1_drop (s q1 q2 g : Nat) (se : Nat) (b n : Int) (V : Value) (p : PC) (w : World) (hs : Blk w s 27 #[.int .u32 se])
    (h1 : Blk w q1 36 #[.func (.func 39) #[] #[.pointer (some ⟨s, 0, none⟩)]]) (h2 : Blk w q2 24 #[.pointer (some ⟨g, 0, none⟩)])
    (h : Blk w g 78 #[.int .i64 b, .int .i64 n, V]) (hp : 0 ≤ p.n ∧ p.n ≤ n) (hn : n ≤ 1000000000000) :
    Calls Try.prog 54 #[.agg (encP p).toArray, .pointer (some ⟨q1, 0, none⟩), .pointer (some ⟨q2, 0, none⟩)] w fun e w' => e = .returned (.bool (goneD se p)) ∧
      ((goneD se p = false ∧ Below w.heap.size w w') ∨ (goneD se p = true ∧ ∃ w2, Below w.heap.size w w2 ∧ w' = w2.setCell ⟨g, 1, none⟩ (.int .i64 (n - p.n)))) := by
  obtain ⟨ps, f0, f1, f2, t0, t1, t2, pn⟩ := p
  have K := (((((Qs.zero w).cons (k := qB _ _ _) hs).cons (k := qB _ _ _) h1).cons (k := qB _ _ _) h2).cons (k := qB _ _ _) h).box #[.int .u32 ps, .int .u32 f0, .int .u32 f1, .int .u32 f2, .int .u32 t0, .int .u32 t1, .int .u32 t2, .int .i64 pn] 31
  have HK := Lib.hid K
  have C := K.says
  simp only [sayAll, cellsSay, qB, qW, qR, qZ, Nat.reduceAdd, and_true, true_and] at C
  dsimp only at hp
  have hA := fun (W : World) (hs : Blk W s 27 #[.int .u32 se]) => drop1_any s se ⟨ps, f0, f1, f2, t0, t1, t2, pn⟩ W hs
  generalize goneD se ⟨ps, f0, f1, f2, t0, t1, t2, pn⟩ = r at hA ⊢
  simp only [encP] at hA ⊢
  have HA := Lib.hid hA
  clear K hs h1 h2 h hA
  go_enter Try.func54, Try.ntmps54
  go_wp2_with fail
  refine (HA.out _ (HK.out.blk 4)).mono ?_
  rintro e w1 ⟨rfl, b1⟩
  have HK1 := Lib.hid (HK.out.go b1)
  clear C b1 HK
  have C := HK1.out.says
  simp only [sayAll, cellsSay, qB, qW, qR, qZ, Nat.reduceAdd, and_true, true_and] at C
  cases r
  · go_wp2_with fail
    go_ret
    first | exact ⟨rfl, .inl ⟨rfl, HK1.out.top 5⟩⟩ | exact ⟨rfl, HK1.out.top 5⟩
  · have hw : IntKind.i64.wrap (-pn) = -pn := by rw [IntKind.wrap_i64]; omega
    go_wp2_with fail
    go_region_with (go_at_call 40; refine (aadd_any ⟨g, 1, none⟩ n (-pn) _ ((HK1.out.drew.blk 1).cell 1) ((HK1.out.drew.blk 1).frozen 1) (by omega)).mono ?_; rintro e w9 ⟨rfl, rfl⟩)
    all_goals
      go_wp2_with fail
      go_ret
      exact ⟨rfl, w1.drew, HK1.out.drew.top 5, by rw [Int.sub_eq_add_neg]; rfl⟩

end Go.Proofs.Ytlchnpmiaemobaa
