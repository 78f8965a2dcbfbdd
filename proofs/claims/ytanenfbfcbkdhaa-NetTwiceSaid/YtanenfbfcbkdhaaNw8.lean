/- Layer 19: known and heavy. -/
import Derived.Test.YtanenfbfcbkdhaaNw7
import Derived.Test.YtanenfbfcbkdhaaFrameO
import Derived.Test.YtanenfbfcbkdhaaFrs
import Derived.Test.YtanenfbfcbkdhaaAppR
set_option linter.unusedSimpArgs false
set_option linter.unusedVariables false
namespace Go.Proofs.Ytanenfbfcbkdhaa
open Go.RowKit
set_option maxRecDepth 100000

theorem len_of {T : List Ng} {L : List Dg} (h : T.map Ng.d = L) : T.length = L.length := by rw [← h, List.length_map]

set_option maxHeartbeats 8000000 in
theorem nknown_any (w : World) : Calls Try.prog 8 #[] w fun e w' => e = .returned (.bool true) ∧ Below w.heap.size w w' := by
  have hmx : Try.prog.follows .mixedOrders = true := by kernel_rfl
  go_enter Try.func8, Try.ntmps8
  go_wp2_with fail
  refine (nnew_any w).mono ?_
  rintro e w1 ⟨rfl, n1, b1⟩
  obtain ⟨q, hq⟩ : ∃ q, q = w.heap.size := ⟨_, rfl⟩
  rw [← hq] at n1 ⊢
  have H1 := Lib.hid (And.intro n1 b1)
  have Hq := Lib.hid hq
  clear n1 b1 hq
  obtain ⟨W1, hW1⟩ : ∃ W1, W1 = w1.alloc (.cells #[.int .u8 7] 5) := ⟨_, rfl⟩
  have hBs : Bs W1 (some ⟨w1.heap.size, 0, none⟩) [7] := by rw [hW1]; exact (own_built w1 [7] (base := 0) (Nat.zero_le _) (by simp)).bs
  have hb1 : Below w1.heap.size w1 W1 := by rw [hW1]; exact below_alloc _ _
  have HB := Lib.hid (And.intro hBs hb1)
  have HC := Lib.hid (nsend_any q _ [] 1 [7] (some ⟨w1.heap.size, 0, none⟩) 1 W1 (H1.out.1.below hb1) (fun t h => by simp at h) hBs (by simp))
  clear hBs hb1
  go_wp2_with fail
  rw [← hW1]
  clear hW1
  refine HC.out.mono ?_
  rintro e w2 ⟨rfl, V2, T2, h2⟩
  rw [show (maySend 1 [7] && decide (([] : List Ng).length < 4096)) = true by decide]
  have H2 := Lib.hid (show NtTo W1 q _ [] w2 V2 T2 ∧ okT T2 ∧ T2.map Ng.d = [⟨1, [7], false⟩] ∧ T2.length = 1 from ⟨h2.out.1, h2.out.2.1, h2.out.2.2, len_of h2.out.2.2⟩)
  clear h2 HC
  have HC := Lib.hid (ntwice_any q V2 T2 0 w2 H2.out.1.nt H2.out.2.1 (by rw [H2.out.2.2.2]; omega))
  go_wp2_with fail
  refine HC.out.mono ?_
  rintro e w3 ⟨rfl, V3, T3, h3⟩
  rw [H2.out.2.2.2, show (isD 1 0 && decide (1 < 4096)) = true by decide]
  have hm3 : T3.map Ng.d = [⟨1, [7], false⟩, ⟨1, [7], false⟩] := by rw [h3.out.2.2, H2.out.2.2.1]; rfl
  have H3 := Lib.hid (show NtTo w2 q V2 T2 w3 V3 T3 ∧ okT T3 ∧ T3.map Ng.d = [⟨1, [7], false⟩, ⟨1, [7], false⟩] ∧ T3.length = 2 from ⟨h3.out.1, h3.out.2.1, hm3, len_of hm3⟩)
  clear h3 hm3 HC
  have HC := Lib.hid (nbend_any q V3 T3 1 0 1 w3 H3.out.1.nt H3.out.2.1 (by omega))
  go_wp2_with fail
  refine HC.out.mono ?_
  rintro e w4 ⟨rfl, V4, T4, h4⟩
  rw [H3.out.2.2.1, show mayBend [⟨1, [7], false⟩, ⟨1, [7], false⟩] 1 0 1 = true by decide]
  have hm4 : T4.map Ng.d = [⟨1, [7], false⟩, ⟨1, [6], true⟩] := by rw [h4.out.2.2, H3.out.2.2.1]; rfl
  have H4 := Lib.hid (show NtTo w3 q V3 T3 w4 V4 T4 ∧ okT T4 ∧ T4.map Ng.d = [⟨1, [7], false⟩, ⟨1, [6], true⟩] ∧ T4.length = 2 from ⟨h4.out.1, h4.out.2.1, hm4, len_of hm4⟩)
  clear h4 hm4 HC
  have HC := Lib.hid (ngrams_any q V4 T4 w4 H4.out.1.nt H4.out.2.1 (by rw [H4.out.2.2.2]; omega))
  go_wp2_with fail
  refine HC.out.mono ?_
  rintro e w5 ⟨R, c, L, rfl, h5⟩
  rw [H4.out.2.2.2] at h5 ⊢
  obtain ⟨g5, m5, b5, -⟩ := h5.out
  rw [H4.out.2.2.1] at m5
  have H5 := Lib.hid (And.intro g5 (And.intro m5 b5))
  clear h5 HC g5 m5 b5
  go_wp2_with fail
  obtain ⟨x0, x1, hL⟩ : ∃ x0 x1, L = [x0, x1] := by
    have := len_of H5.out.2.1
    match L, this with
    | [a, b], _ => exact ⟨a, b, rfl⟩
  subst hL
  have hm5 := H5.out.2.1
  simp only [List.map_cons, List.map_nil, List.cons.injEq, and_true] at hm5
  have hb0 : x0.b = [7] := congrArg Dg.b hm5.1
  have hb1 : x1.b = [6] := congrArg Dg.b hm5.2
  obtain ⟨A, c', hv, -, hR⟩ := OwnR.row Try.eltG H5.out.1.row
  injection hv with e1 _ _
  subst e1
  obtain ⟨gr, o0, hA, hc0⟩ := hR 0 x0 rfl
  obtain ⟨gr1, o1, hA1, hc1⟩ := hR 1 x1 rfl
  have hgo : o0 = 0 := by
    rcases H5.out.1.row.2 with ⟨h9, _⟩ | ⟨g9, cap9, cur, h9, _⟩
    · injection h9 with h9 _ _; rw [h9] at hA; cases hA
    · injection h9 with h9 _ _; rw [h9] at hA; injection hA with hA; injection hA with _ h8 _; exact h8.symm
  subst hgo
  rw [hA] at hA1
  injection hA1 with hA1
  injection hA1 with h8 h9 _
  subst h8 h9 hA
  have c0 := hc0 1 _ rfl
  have c1 := hc1 1 _ rfl
  simp only [vaG, hb0, hb1, Nat.zero_mul, Nat.zero_add, Nat.one_mul, Nat.reduceAdd, Nat.reduceMul, List.length_cons, List.length_nil] at c0 c1
  have e0 : ∀ y : More, (plus w5 y).cell? ⟨gr, 1, none⟩ = some (.slice x0.A 1 x0.c) := fun y => (plus_cell w5 y _ (by rw [c0]; rfl)).trans c0
  have e1 : ∀ y : More, (plus w5 y).cell? ⟨gr, 3, none⟩ = some (.slice x1.A 1 x1.c) := fun y => (plus_cell w5 y _ (by rw [c1]; rfl)).trans c1
  have s0 : ∀ y : More, (convert 22 9 (.slice x0.A 1 x0.c)).run Try.prog (plus w5 y) = .ok (.string ⟨#[7]⟩) (plus w5 y) := fun y => by
    have h9 := str_of (OwnB.bs (H5.out.1.el x0 (by simp)) |>.below (plus_below w5 y)) x0.c
    rw [hb0] at h9
    exact h9
  have s1 : ∀ y : More, (convert 22 9 (.slice x1.A 1 x1.c)).run Try.prog (plus w5 y) = .ok (.string ⟨#[6]⟩) (plus w5 y) := fun y => by
    have h9 := str_of (OwnB.bs (H5.out.1.el x1 (by simp)) |>.below (plus_below w5 y)) x1.c
    rw [hb1] at h9
    exact h9
  have HBt : Hid (∀ (y : More) (i : Int), Calls Try.prog 17 #[.pointer (some ⟨q, 0, none⟩), .int .i64 i] (plus w5 y) fun e w' => e = .returned (.bool (isD 2 i && (([(⟨1, [7], false⟩ : Dg), ⟨1, [6], true⟩][i.toNat]?).map Dg.bent).getD false)) ∧ w' = plus w5 y) := Lib.hid (fun y i => by
    have h9 := nbent_any q V4 T4 i (plus w5 y) ((H4.out.1.nt.below H5.out.2.2).below (plus_below w5 y))
    rw [H4.out.2.2.2, H4.out.2.2.1] at h9
    exact h9)
  have bs1 : ∀ {W : World} {g : Nat} (x : UInt8), Blk W g 5 #[.int .u8 (x.toNat : Nat)] → Bs W (some ⟨g, 0, none⟩) [x] := fun x h => fun i b hi => by
    rcases i with _ | i
    · simp at hi; subst hi; exact ⟨_, 0, rfl, h.cell 0⟩
    · simp at hi
  clear hc0 hc1 hR hm5 hb0 hb1 c0 c1
  refine wp_region_fresh (List.replicate 19 none ++ [some 18] ++ List.replicate 9 none ++ [some 28]) [18, 28, 34, 38] (fun k V z => if k = 18 then ∃ g, V = .slice (some ⟨g, 0, none⟩) 1 1 ∧ Blk z g 5 #[.int .u8 7] else if k = 28 then ∃ g, V = .slice (some ⟨g, 0, none⟩) 1 1 ∧ Blk z g 5 #[.int .u8 6] else if k = 34 then V = .bool true else V = .bool false) hmx (by kernel_rfl) (by kernel_rfl) ?_
  iterate 18 (refine walkF_one none w5 rfl (by kernel_rfl) ?_; go_big_quiet_step (fail); refine wpQuiet_nil ?_)
  refine walkF_make none w5 rfl rfl rfl (by kernel_rfl) (fun x => ?_) ?_
  · refine grow_val (w' := (plus w5 x).alloc (.cells #[.int .u8 7] 5)) (v := .slice (some ⟨(plus w5 x).heap.size, 0, none⟩) 1 1) ?_ (below_alloc _ _) ⟨_, rfl, Blk.new _ _ _⟩
    simp [execOp, go_sem]
  rintro v1 z1 ⟨g1, rfl, hg⟩ gz
  conv => arg 11; simp [Act.put]
  have s8 : ∀ x : More, (convert 22 9 (.slice (some ⟨g1, 0, none⟩) 1 1)).run Try.prog (plus z1 x) = .ok (.string ⟨#[7]⟩) (plus z1 x) := fun x => str_of (bs1 (7 : UInt8) (hg.below (plus_below z1 x) hg.lt)) 1
  refine walkF_one (some 18) z1 rfl (by kernel_rfl) ?_
  go_big_quiet_step (fail)
  refine wpQuiet_nil ?_
  clear s8 gz
  iterate 8 (refine walkF_one none w5 rfl (by kernel_rfl) ?_; go_big_quiet_step (fail); refine wpQuiet_nil ?_)
  refine walkF_make none w5 rfl rfl rfl (by kernel_rfl) (fun x => ?_) ?_
  · refine grow_val (w' := (plus w5 x).alloc (.cells #[.int .u8 6] 5)) (v := .slice (some ⟨(plus w5 x).heap.size, 0, none⟩) 1 1) ?_ (below_alloc _ _) ⟨_, rfl, Blk.new _ _ _⟩
    simp [execOp, go_sem]
  rintro v2 z2 ⟨g2, rfl, hg⟩ gz
  conv => arg 11; simp [Act.put]
  have s8 : ∀ x : More, (convert 22 9 (.slice (some ⟨g2, 0, none⟩) 1 1)).run Try.prog (plus z2 x) = .ok (.string ⟨#[6]⟩) (plus z2 x) := fun x => str_of (bs1 (6 : UInt8) (hg.below (plus_below z2 x) hg.lt)) 1
  refine walkF_one (some 28) z2 rfl (by kernel_rfl) ?_
  go_big_quiet_step (fail)
  refine wpQuiet_nil ?_
  clear s8 gz
  iterate 4 (refine walkF_one none w5 rfl (by kernel_rfl) ?_; go_big_quiet_step (fail); refine wpQuiet_nil ?_)
  refine walkF_make none w5 rfl rfl rfl (by kernel_rfl) (fun x => ?_) ?_
  · refine grow_call ?_ ((HBt.out x 1).mono ?_)
    · simp [execOp, go_sem]
    · rintro e w6 ⟨rfl, rfl⟩
      exact ⟨_, rfl, Below.refl _ _, rfl⟩
  rintro v6 z6 hv6 gz
  obtain rfl : v6 = .bool true := hv6
  conv => arg 11; simp [Act.put]
  clear gz
  iterate 3 (refine walkF_one none w5 rfl (by kernel_rfl) ?_; go_big_quiet_step (fail); refine wpQuiet_nil ?_)
  refine walkF_make none w5 rfl rfl rfl (by kernel_rfl) (fun x => ?_) ?_
  · refine grow_call ?_ ((HBt.out x 0).mono ?_)
    · simp [execOp, go_sem]
    · rintro e w6 ⟨rfl, rfl⟩
      exact ⟨_, rfl, Below.refl _ _, rfl⟩
  rintro v6 z6 hv6 gz
  obtain rfl : v6 = .bool false := hv6
  conv => arg 11; simp [Act.put]
  clear gz
  iterate 3 (refine walkF_one none w5 rfl (by kernel_rfl) ?_; go_big_quiet_step (fail); refine wpQuiet_nil ?_)
  refine walkF_end ?_
  intro w' h0 hE
  clear hE s0 s1 e0 e1
  have HE := Lib.hid h0
  clear h0
  go_wp2_with fail
  go_ret
  have N4 := (((NtTo.same H1.out.1 HB.out.2).trans H2.out.1).trans H3.out.1).trans H4.out.1
  have b4 := N4.tou.under H1.out.2 (fun k hk => by
    rcases hk with rfl | hk | ⟨t, ht, _⟩
    · exact Nat.le_of_eq Hq.out.symm
    · simp [Value.ownBlock] at hk
    · simp at ht) H1.out.2.size
  exact ⟨rfl, on1 (on1 b4 H5.out.2.2) HE.out⟩

end Go.Proofs.Ytanenfbfcbkdhaa
