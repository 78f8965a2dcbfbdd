/- Joined: Rv10, Rv11, Rv12. -/
import Derived.Test.YtmcdollkmlcpbaaGreatDoorQ52
import Derived.Test.YtmcdollkmlcpbaaGreatDoorQ49
import Derived.Test.YtmcdollkmlcpbaaGreatDoorQ43
import Derived.Test.YtmcdollkmlcpbaaGreatDoorQ39
import Derived.Deep.DeepCutAuto
set_option linter.unusedSimpArgs false
set_option linter.unusedVariables false
set_option linter.unusedSimpArgs false
set_option linter.unusedVariables false
namespace Go.Proofs.YtmcdollkmlcpbaaGreatDoor
open Go.RowKit
set_option maxRecDepth 100000
def rkD : BD := ⟨1, 4, [(5, [[(10, 1)]])]⟩
def rkL : List UInt8 := pack (bitsL [(10, 1)])
def rkF : FrD := ⟨2, 0, 5, 0, 0, 0, 1, false, 0, rkL, 128⟩
theorem rk_put : mayD ⟨1, 4, []⟩ 5 10 = 0 ∧ putD ⟨1, 4, []⟩ 5 (10, 1) = rkD := ⟨by kernel_rfl, by kernel_rfl⟩
theorem rk_cut : cutF 5 (rkD.at_ 5) 0 0 0 1 = (⟨0, 0, 5, 0, 0, 0, 1, false, 0, rkL, 128⟩, (0, 128, 1), 0) := by kernel_rfl
theorem rk_fit : fitD ⟨1, 4, []⟩ rkF = (0, [(10, 1)]) := by kernel_rfl
theorem rk_may : mayN (noF rkF) = true := by kernel_rfl
theorem rk_r1 : reactF ⟨1, 4, []⟩ rkF = 1 := by
 have h1 : (rkF.fc, rkF.fb, rkF.fn) = endC ((⟨1, 4, []⟩ : BD).at_ rkF.se) := by kernel_rfl
 have h2 : rkF.sm = sumE ((⟨1, 4, []⟩ : BD).at_ rkF.se) := by kernel_rfl
 unfold reactF
 rw [if_neg (by decide), if_pos h1, if_pos h2]
 unfold takF
 rw [rk_may, rk_fit, if_pos ⟨rfl, rfl⟩]
theorem rk_take : takeD ⟨1, 4, []⟩ (frN (noF rkF)) = rkD := by
 have h : fitD ⟨1, 4, []⟩ (frN (noF rkF)) = (0, [(10, 1)]) := rk_fit
 unfold takeD
 rw [h, if_pos rfl]
 show (⟨1, 4, putM [] 5 (setLast ((⟨1, 4, []⟩ : BD).at_ 5) [(10, 1)] false)⟩ : BD) = rkD
 kernel_rfl
theorem rk_end : endC (rkD.at_ 5) = (0, 128, 1) := by kernel_rfl
theorem rk_r2 : reactF rkD rkF = 2 := by
 unfold reactF
 rw [if_neg (by decide)]
 show (if ((0, 0, 0) : Nat × Nat × Nat) = endC (rkD.at_ 5) then _ else if (0 : Nat) < (endC (rkD.at_ 5)).1 ∨ (0 : Nat) = (endC (rkD.at_ 5)).1 ∧ (1 : Nat) ≤ (endC (rkD.at_ 5)).2.2 then 2 else 3) = 2
 rw [rk_end, if_neg (by decide), if_pos (.inr ⟨rfl, Nat.le_refl _⟩)]
theorem rk_l1 : lookF ⟨1, 4, []⟩ 0 rkF = ⟨0, noF rkF, true, [], 0⟩ := by
 unfold lookF
 rw [if_neg (by decide), if_neg (by decide), if_neg (by decide), if_pos rk_r1]
 rfl
theorem rk_l2 : lookF rkD 0 rkF = ⟨0, zeroN, false, [ansF rkD 0 4 5], 0⟩ := by
 unfold lookF
 rw [if_neg (by decide), if_neg (by decide), if_neg (by decide), if_neg (by rw [rk_r2]; decide), if_pos rk_r2]
 rfl
theorem rk_do : doF ⟨1, 4, []⟩ 0 (noF rkF) = (rkD, [ansF rkD 0 4 5], 0) := by
 have h : (fitD ⟨1, 4, []⟩ (frN (noF rkF))).1 = 0 := by rw [show fitD ⟨1, 4, []⟩ (frN (noF rkF)) = (0, [(10, 1)]) from rk_fit]
 unfold doF
 rw [if_neg (by decide), if_pos h, rk_take]
 rfl
theorem rk_ans : ∃ s : Nat, ansF rkD 0 4 5 = ⟨4, 0, 5, 0, 128, 1, 0, false, s, [], 0⟩ := by
 unfold ansF
 rw [rk_end]
 exact ⟨_, rfl⟩
theorem rk_len : rkL.length = 16 := by kernel_rfl
end Go.Proofs.YtmcdollkmlcpbaaGreatDoor
set_option linter.unusedSimpArgs false
set_option linter.unusedVariables false
namespace Go.Proofs.YtmcdollkmlcpbaaGreatDoor
open Go.RowKit
set_option maxRecDepth 100000
theorem rowSay {α : Type} {P : Program} {w : World} {t e : TypeId} {enc : α → List Value} {sz bytes : Nat} (E : Elt P t e enc sz bytes) {g n c : Nat} {x : α} {l : List α} (h : OwnR w 0 e enc sz (.slice (some ⟨g, 0, none⟩) n c) (x :: l)) (cs : List Value) (hc : enc x = cs) : cellsSay w g 0 cs := by
 have h1 : ∀ (m : List Value) (i : Nat), cs.drop i = m → cellsSay w g i m := by
  intro m
  induction m with
  | nil => intro i _; trivial
  | cons v m ih =>
   intro i hi
   have hv : (enc x)[i]? = some v := by
    rw [hc]
    have := congrArg List.head? hi
    rw [List.head?_drop] at this
    exact this
   have hk := row_cellE E h (k := 0) rfl i v hv
   rw [Nat.zero_mul, Nat.zero_add] at hk
   refine ⟨hk, row_froz h i, ih (i + 1) ?_⟩
   have := congrArg List.tail hi
   simpa [List.tail_drop] using this
 exact h1 cs 0 rfl
section
variable {B : Nat} {w0 w w' : World} {r q ep : Nat} {D : BD} {ts us : List Kt} {Y : Bl}
theorem Bk.other (h : Bk B w0 w q D (thBk Y :: ts)) (ok : OkB Y) : ∃ us, Bk B w0 w Y.q Y.D us ∧ ∀ t ∈ ts, t ∈ us := by
 obtain ⟨X, h1, h2, okX, hS⟩ := h
 exact ⟨thBk X :: ts, ⟨Y, rfl, rfl, ok, hS.permB (List.Perm.swap _ _ _)⟩, fun t ht => List.mem_cons_of_mem _ ht⟩
theorem rkF_ok : rkF.ok := ⟨by decide, by decide, by decide, by decide, by decide, by decide, by decide, by decide, by decide, by decide⟩
theorem rkN_ok : (noF rkF).ok := ⟨by decide, by decide, by decide, ⟨by decide, by decide⟩, by decide, by decide, by decide, by decide, by decide, by decide, by decide⟩
theorem rk_look1 (h : Rv B w0 w r q 0 ⟨1, 4, []⟩ ts) (hT : Tab w0) (hB : w0.heap.size ≤ B) (A : Option Addr) (c : Nat) (hb : Bs w A rkL) : Calls Tryz.prog 11 #[ptB r, .agg #[.int .u8 2, .int .u32 0, .int .u32 5, .int .u32 0, .int .u32 0, .int .u32 0, .int .u32 1, .bool false, .int .u64 0, .slice A 16 c, .int .i64 128]] w fun e w' => ∃ A1 c1 U c2, e = .returned (.tuple #[.agg #[.int .u8 4, .int .u32 0, .int .u32 5, .int .i64 0, .int .u64 0, .int .u32 0, .int .u32 0, .int .u32 0, .int .u32 1, .bool false, .slice A1 16 c1, .int .i64 128], .bool true, .slice U 0 c2, .int .u16 0]) ∧ Rv B w0 w' r q 0 ⟨1, 4, []⟩ (thO (.slice A1 16 c1) rkL :: ts) := by
 have h1 := look_any h hT hB rkF rkF_ok A c hb (by rw [show rkF.l = rkL from rfl, rk_len]; decide)
 rw [rk_l1] at h1
 have h2 : Calls Tryz.prog 11 #[ptB r, .agg #[.int .u8 2, .int .u32 0, .int .u32 5, .int .u32 0, .int .u32 0, .int .u32 0, .int .u32 1, .bool false, .int .u64 0, .slice A rkL.length c, .int .i64 128]] w (LkO B w0 r q ⟨1, 4, []⟩ ts ⟨0, noF rkF, true, [], 0⟩) := h1
 rw [rk_len] at h2
 refine h2.mono ?_
 rintro e w' ⟨A1, c1, U, c2, rfl, h3⟩
 have h4 : Rv B w0 w' r q 0 ⟨1, 4, []⟩ (thO (.slice A1 rkL.length c1) rkL :: ts) := h3.tail
 rw [rk_len] at h4
 refine ⟨A1, c1, U, c2, ?_, h4⟩
 show Ending.returned (.tuple #[.agg #[.int .u8 4, .int .u32 0, .int .u32 5, .int .i64 0, .int .u64 0, .int .u32 0, .int .u32 0, .int .u32 0, .int .u32 1, .bool false, .slice A1 rkL.length c1, .int .i64 128], .bool true, .slice U 0 c2, .int .u16 0]) = _
 rw [rk_len]
theorem rk_do1 (h : Rv B w0 w r q 0 ⟨1, 4, []⟩ ts) (hT : Tab w0) (hB : w0.heap.size ≤ B) (A1 : Option Addr) (c1 : Nat) (hb : Bs w A1 rkL) : Calls Tryz.prog 18 #[ptB r, .agg #[.int .u8 4, .int .u32 0, .int .u32 5, .int .i64 0, .int .u64 0, .int .u32 0, .int .u32 0, .int .u32 0, .int .u32 1, .bool false, .slice A1 16 c1, .int .i64 128]] w fun e w' => ∃ U c2 s, e = .returned (.tuple #[.slice U 1 c2, .int .u16 0]) ∧ ansF rkD 0 4 5 = ⟨4, 0, 5, 0, 128, 1, 0, false, s, [], 0⟩ ∧ Rv B w0 w' r q 0 rkD (thR 39 encFrE 11 (.slice U 1 c2) [⟨⟨4, 0, 5, 0, 128, 1, 0, false, s, [], 0⟩, none, 0⟩] :: ts) := by
 have h1 := do_any h hT hB (noF rkF) rkN_ok A1 c1 hb (by rw [show (noF rkF).l = rkL from rfl, rk_len]; decide) (by show 0 + 24 ≤ 1000; decide)
 rw [rk_do] at h1
 have h2 : Calls Tryz.prog 18 #[ptB r, .agg #[.int .u8 4, .int .u32 0, .int .u32 5, .int .i64 0, .int .u64 0, .int .u32 0, .int .u32 0, .int .u32 0, .int .u32 1, .bool false, .slice A1 rkL.length c1, .int .i64 128]] w (DoO B w0 r q 0 ts (rkD, [ansF rkD 0 4 5], 0)) := h1
 rw [rk_len] at h2
 refine h2.mono ?_
 rintro e w' ⟨U, c2, rfl, h3⟩
 obtain ⟨s, hs⟩ := rk_ans
 have h4 : Rv B w0 w' r q 0 rkD (thR 39 encFrE 11 (.slice U 1 c2) [fe (ansF rkD 0 4 5)] :: ts) := h3
 rw [hs] at h4
 exact ⟨U, c2, s, rfl, hs, h4⟩
theorem rk_look2 (h : Rv B w0 w r q 0 rkD ts) (hT : Tab w0) (hB : w0.heap.size ≤ B) (A : Option Addr) (c : Nat) (hb : Bs w A rkL) (s : Nat) (hs : ansF rkD 0 4 5 = ⟨4, 0, 5, 0, 128, 1, 0, false, s, [], 0⟩) : Calls Tryz.prog 11 #[ptB r, .agg #[.int .u8 2, .int .u32 0, .int .u32 5, .int .u32 0, .int .u32 0, .int .u32 0, .int .u32 1, .bool false, .int .u64 0, .slice A 16 c, .int .i64 128]] w fun e w' => ∃ A1 c1 U c2, e = .returned (.tuple #[.agg #[.int .u8 0, .int .u32 0, .int .u32 0, .int .i64 0, .int .u64 0, .int .u32 0, .int .u32 0, .int .u32 0, .int .u32 0, .bool false, .slice A1 0 c1, .int .i64 0], .bool false, .slice U 1 c2, .int .u16 0]) ∧ Rv B w0 w' r q 0 rkD (thR 39 encFrE 11 (.slice U 1 c2) [⟨⟨4, 0, 5, 0, 128, 1, 0, false, s, [], 0⟩, none, 0⟩] :: ts) := by
 have h1 := look_any h hT hB rkF rkF_ok A c hb (by rw [show rkF.l = rkL from rfl, rk_len]; decide)
 rw [rk_l2] at h1
 have h2 : Calls Tryz.prog 11 #[ptB r, .agg #[.int .u8 2, .int .u32 0, .int .u32 5, .int .u32 0, .int .u32 0, .int .u32 0, .int .u32 1, .bool false, .int .u64 0, .slice A rkL.length c, .int .i64 128]] w (LkO B w0 r q rkD ts ⟨0, zeroN, false, [ansF rkD 0 4 5], 0⟩) := h1
 rw [rk_len] at h2
 refine h2.mono ?_
 rintro e w' ⟨A1, c1, U, c2, he, h3⟩
 have h5 : Rv B w0 w' r q 0 rkD (thR 39 encFrE 11 (.slice U 1 c2) [fe (ansF rkD 0 4 5)] :: ts) := h3.sub ((List.sublist_cons_self _ _).cons_cons _)
 rw [hs] at h5
 exact ⟨A1, c1, U, c2, he, h5⟩
end
set_option maxHeartbeats 16000000 in
theorem rknown_any (w : World) (hT : Tab w) : Calls Tryz.prog 7 #[] w fun e w' => e = .returned (.bool true) ∧ Below w.heap.size w w' := by
 have hmx : Tryz.prog.follows .mixedOrders = true := by kernel_rfl
 have HN := Lib.hid (bk_new (Sep.nil (Below.refl w.heap.size w) (Nat.le_refl _)) 1 4 (by decide) (by decide) (by decide) (by decide))
 have HT := Lib.hid hT
 clear hT
 go_enter Tryz.func7, Tryz.ntmps7
 go_upto_region 2 with (go_at_call 16; refine HN.out.mono ?_; rintro e w1 ⟨qa, rfl, hS0⟩)
 have HN2 := Lib.hid (bk2_new hS0 1 4 (by decide) (by decide) (by decide) (by decide))
 clear hS0 HN
 go_upto_region 5 with (go_at_call 16; refine HN2.out.mono ?_; rintro e w2 ⟨qb, rfl, hK⟩)
 have hP := bk2_put hK.swap (tabGo HT.out hK.b) 5 (by decide) 10 1 ⟨by unfold in64; omega, by decide⟩ (by decide)
 rw [rk_put.1, rk_put.2] at hP
 have HP := Lib.hid hP
 clear hP hK HN2
 go_upto_region 6 with (go_at_call 23; refine HP.out.mono ?_; rintro e w3 ⟨rfl, hK⟩)
 obtain ⟨Y, hY1, hY2, hY3, hB⟩ := hK
 obtain ⟨us, hA, -⟩ := hB.other hY3
 have hC := bk_cut hA 5 (by decide) 0 0 0 1 (by decide) (by decide) (by decide) (by unfold in64; omega)
 rw [hY1, hY2, rk_cut] at hC
 have hC2 : Calls Tryz.prog 24 #[ptB qa, .int .u32 5, .agg #[.int .u32 0, .int .u32 0, .int .u32 0], .int .i64 1] w3 fun e w' => (∃ A c, e = .returned (.tuple #[.agg #[.int .u8 0, .int .u32 0, .int .u32 5, .int .u32 0, .int .u32 0, .int .u32 0, .int .u32 1, .bool false, .int .u64 0, .slice A rkL.length c, .int .i64 128], .agg #[.int .u32 0, .int .u32 128, .int .u32 1], .int .u16 0]) ∧ OwnB w' w3.heap.size (.slice A rkL.length c) rkL) ∧ Below w3.heap.size w3 w' := hC
 rw [rk_len] at hC2
 have HC := Lib.hid hC2
 have HB := Lib.hid hB
 clear hC hC2 hA hB hY1 hY2 hY3 HP
 go_upto_region 7 with (go_at_call 24; refine HC.out.mono ?_; rintro e w4 ⟨⟨A3, c3, rfl, ho⟩, b4⟩)
 have h4 := ((HB.out.cons (t := thO (.slice A3 16 c3) rkL) b4 (ho.mono (Nat.zero_le _)) (fun k hk => (World.ownsRow.lt ho k hk).1)).box #[.int .u8 0, .int .u32 0, .int .u32 5, .int .u32 0, .int .u32 0, .int .u32 0, .int .u32 1, .bool false, .int .u64 0, .slice A3 16 c3, .int .i64 128] 39).box #[.int .u32 0, .int .u32 128, .int .u32 1] 36
 rw [World.size_alloc] at h4
 generalize hV4 : World.alloc (World.alloc _ _) _ = V4 at h4 ⊢
 obtain ⟨g3, hg3⟩ : ∃ g, g = w4.heap.size := ⟨_, rfl⟩
 obtain ⟨g4, hg4⟩ : ∃ g, g = w4.heap.size + 1 := ⟨_, rfl⟩
 rw [← hg4, ← hg3] at h4 ⊢
 have D3 := cells_say (h4.sep.blk 1) _ 0 rfl
 simp only [cellsSay, List.drop_zero, Nat.reduceAdd, and_true] at D3
 have H4 := Lib.hid h4
 clear hV4 hg3 hg4 h4 ho b4 HB HC
 go_upto_region 8 with fail
 generalize hW5 : World.setCell _ _ _ = W5
 have h5 := H4.out.put_ 1 g3 [(0, .int .u8 2)] #[.int .u8 2, .int .u32 0, .int .u32 5, .int .u32 0, .int .u32 0, .int .u32 0, .int .u32 1, .bool false, .int .u64 0, .slice A3 16 c3, .int .i64 128] hW5
 simp only [List.set_cons_succ, List.set_cons_zero] at h5
 have HR := Lib.hid (rnew_any h5)
 clear D3 hW5 H4 h5
 go_upto_region 11 with (go_at_call 9; refine HR.out.mono ?_; rintro e w6 ⟨r, rfl, h6⟩)
 have D3 := cells_say (h6.sep.blk 1) _ 0 rfl
 simp only [cellsSay, List.drop_zero, Nat.reduceAdd, and_true] at D3
 have HL := Lib.hid (rk_look1 h6 HT.out (Nat.le_refl _) A3 c3 (OwnB.bs (h6.sep.own 2)))
 clear h6 HR
 go_upto_region 12 with (go_at_call 11; refine HL.out.mono ?_; rintro e w7 ⟨A1, c1, U7, c7, rfl, h7⟩)
 have h8 := h7.box #[.int .u8 4, .int .u32 0, .int .u32 5, .int .i64 0, .int .u64 0, .int .u32 0, .int .u32 0, .int .u32 0, .int .u32 1, .bool false, .slice A1 16 c1, .int .i64 128] 44
 generalize hV8 : World.alloc _ _ = V8 at h8 ⊢
 obtain ⟨g7, hg7⟩ : ∃ g, g = w7.heap.size := ⟨_, rfl⟩
 rw [← hg7] at h8 ⊢
 clear D3
 have D7 := cells_say (h8.sep.blk 0) _ 0 rfl
 simp only [cellsSay, List.drop_zero, Nat.reduceAdd, and_true] at D7
 have HD := Lib.hid (rk_do1 h8 HT.out (Nat.le_refl _) A1 c1 (OwnB.bs (h8.sep.own 1)))
 clear hV8 hg7 h7 h8 HL
 go_upto_region 13 with (go_at_call 18; refine HD.out.mono ?_; rintro e w9 ⟨U9, c9, s, rfl, hs, h9⟩)
 clear D7
 have D3 := cells_say (h9.sep.blk 4) _ 0 rfl
 simp only [cellsSay, List.drop_zero, Nat.reduceAdd, and_true] at D3
 have HL := Lib.hid (rk_look2 h9 HT.out (Nat.le_refl _) A3 c3 (OwnB.bs (h9.sep.own 5)) s hs)
 clear h9 hs HD
 go_upto_region 14 with (go_at_call 11; refine HL.out.mono ?_; rintro e w10 ⟨A2, c2, U10, c10, rfl, h10⟩)
 have h11 := h10.box (#[.int .u8 0, .int .u32 0, .int .u32 0, .int .i64 0, .int .u64 0, .int .u32 0, .int .u32 0, .int .u32 0, .int .u32 0, .bool false, .slice A2 0 c2, .int .i64 0]) 44
 generalize hV11 : World.alloc _ _ = V11 at h11 ⊢
 have H11 := Lib.hid h11
 clear hV11 h10 h11 HL D3
 go_upto_region 15 with fail
 obtain ⟨gu, hgu, -, -⟩ := row_at Tryz.eltFrE (H11.out.sep.at_ (t := thR 39 encFrE 11 (.slice U10 1 c10) [⟨⟨4, 0, 5, 0, 128, 1, 0, false, s, [], 0⟩, none, 0⟩]) 1 rfl) (show ([⟨⟨4, 0, 5, 0, 128, 1, 0, false, s, [], 0⟩, none, 0⟩] : List FrE)[0]? = some ⟨⟨4, 0, 5, 0, 128, 1, 0, false, s, [], 0⟩, none, 0⟩ from rfl)
 subst hgu
 obtain ⟨gv, hgv, -, -⟩ := row_at Tryz.eltFrE (H11.out.sep.at_ (t := thR 39 encFrE 11 (.slice U9 1 c9) [⟨⟨4, 0, 5, 0, 128, 1, 0, false, s, [], 0⟩, none, 0⟩]) 2 rfl) (show ([⟨⟨4, 0, 5, 0, 128, 1, 0, false, s, [], 0⟩, none, 0⟩] : List FrE)[0]? = some ⟨⟨4, 0, 5, 0, 128, 1, 0, false, s, [], 0⟩, none, 0⟩ from rfl)
 subst hgv
 have Cu : ∀ y : More, cellsSay (plus V11 y) gu 0 [.int .u8 4, .int .u32 0, .int .u32 5, .int .u32 0, .int .u32 128, .int .u32 1, .int .u32 0, .bool false, .int .u64 (s : Nat), .slice none 0 0, .int .i64 0] := fun y => rowSay Tryz.eltFrE ((H11.out.go (plus_below V11 y)).sep.at_ (t := thR 39 encFrE 11 (.slice (some ⟨gu, 0, none⟩) 1 c10) [⟨⟨4, 0, 5, 0, 128, 1, 0, false, s, [], 0⟩, none, 0⟩]) 1 rfl) _ rfl
 have Cv : ∀ y : More, cellsSay (plus V11 y) gv 0 [.int .u8 4, .int .u32 0, .int .u32 5, .int .u32 0, .int .u32 128, .int .u32 1, .int .u32 0, .bool false, .int .u64 (s : Nat), .slice none 0 0, .int .i64 0] := fun y => rowSay Tryz.eltFrE ((H11.out.go (plus_below V11 y)).sep.at_ (t := thR 39 encFrE 11 (.slice (some ⟨gv, 0, none⟩) 1 c9) [⟨⟨4, 0, 5, 0, 128, 1, 0, false, s, [], 0⟩, none, 0⟩]) 2 rfl) _ rfl
 simp only [cellsSay, Nat.reduceAdd, and_true] at Cu Cv
 have hQ : ∀ w, (binOp .eql 36 (.agg #[.int .u32 0, .int .u32 128, .int .u32 1]) (.agg #[.int .u32 0, .int .u32 128, .int .u32 1])).run Tryz.prog w = .ok (.bool true) w := fun w => eqPlB_run 0 128 1 0 128 1 w
 have hSa : ∀ y : More, Calls Tryz.prog 22 #[.agg #[.int .u8 4, .int .u32 0, .int .u32 5, .int .u32 0, .int .u32 128, .int .u32 1, .int .u32 0, .bool false, .int .u64 (s : Nat), .slice none 0 0, .int .i64 0], .agg #[.int .u8 4, .int .u32 0, .int .u32 5, .int .u32 0, .int .u32 128, .int .u32 1, .int .u32 0, .bool false, .int .u64 (s : Nat), .slice none 0 0, .int .i64 0]] (plus V11 y) fun e w' => e = .returned (.bool true) ∧ ∃ y', w' = plus V11 y' := fun y => by
  have h1 := rfsame_any ⟨4, 0, 5, 0, 128, 1, 0, false, s, [], 0⟩ ⟨4, 0, 5, 0, 128, 1, 0, false, s, [], 0⟩ none none 0 0 (plus V11 y) (Bs.nil _ _) (Bs.nil _ _)
  rw [(sameF_iff _ _).2 rfl] at h1
  exact ext_of h1
 have HSa := Lib.hid hSa
 clear hSa
 refine wp_region_ext (by kernel_rfl) (by kernel_rfl) ?_
 repeat (go_big_quiet_step ((go_at_call 22; exact HSa.out _)))
 refine wpQuiet_nil ?_
 rintro w12 ⟨y, hw12⟩
 have hb := H11.out.b.trans (show Below w.heap.size V11 w12 by rw [hw12]; exact (plus_below V11 y).mono H11.out.b.size)
 clear Cu Cv hQ HSa hw12
 go_wp2_with fail
 go_ret
 exact ⟨rfl, hb⟩
end Go.Proofs.YtmcdollkmlcpbaaGreatDoor
set_option linter.unusedSimpArgs false
set_option linter.unusedVariables false
namespace Go.Proofs.YtmcdollkmlcpbaaGreatDoor
open Go.RowKit
set_option maxRecDepth 100000
set_option maxHeartbeats 8000000 in
theorem zsame_any (A1 : Option Addr) (c1 : Nat) (w : World) : Calls Tryz.prog 12 #[.agg #[.int .u8 0, .int .u32 0, .int .u32 0, .int .i64 0, .int .u64 0, .int .u32 0, .int .u32 0, .int .u32 0, .int .u32 0, .bool false, .slice A1 0 c1, .int .i64 0], .agg #[.int .u8 0, .int .u32 0, .int .u32 0, .int .i64 0, .int .u64 0, .int .u32 0, .int .u32 0, .int .u32 0, .int .u32 0, .bool false, .slice none 0 0, .int .i64 0]] w fun e w' => e = .returned (.bool true) ∧ Below w.heap.size w w' := by
 obtain ⟨W, hW⟩ : ∃ W, W = (w.alloc (.cells #[.int .u8 0, .int .u32 0, .int .u32 0, .int .i64 0, .int .u64 0, .int .u32 0, .int .u32 0, .int .u32 0, .int .u32 0, .bool false, .slice A1 0 c1, .int .i64 0] 44)).alloc (.cells #[.int .u8 0, .int .u32 0, .int .u32 0, .int .i64 0, .int .u64 0, .int .u32 0, .int .u32 0, .int .u32 0, .int .u32 0, .bool false, .slice none 0 0, .int .i64 0] 44) := ⟨_, rfl⟩
 obtain ⟨g2, hg2⟩ : ∃ g, g = w.heap.size := ⟨_, rfl⟩
 obtain ⟨g3, hg3⟩ : ∃ g, g = w.heap.size + 1 := ⟨_, rfl⟩
 have hS : Sep w.heap.size w W (thB g3 44 #[.int .u8 0, .int .u32 0, .int .u32 0, .int .i64 0, .int .u64 0, .int .u32 0, .int .u32 0, .int .u32 0, .int .u32 0, .bool false, .slice none 0 0, .int .i64 0] :: thB g2 44 #[.int .u8 0, .int .u32 0, .int .u32 0, .int .i64 0, .int .u64 0, .int .u32 0, .int .u32 0, .int .u32 0, .int .u32 0, .bool false, .slice A1 0 c1, .int .i64 0] :: []) := by
  have h := ((Sep.nil (Below.refl w.heap.size w) (Nat.le_refl _)).box #[.int .u8 0, .int .u32 0, .int .u32 0, .int .i64 0, .int .u64 0, .int .u32 0, .int .u32 0, .int .u32 0, .int .u32 0, .bool false, .slice A1 0 c1, .int .i64 0] 44).box #[.int .u8 0, .int .u32 0, .int .u32 0, .int .i64 0, .int .u64 0, .int .u32 0, .int .u32 0, .int .u32 0, .int .u32 0, .bool false, .slice none 0 0, .int .i64 0] 44
  simp only [World.size_alloc] at h
  rw [hW, hg2, hg3]
  exact h
 have D2 := cells_say (hS.blk 1) _ 0 rfl
 have D3 := cells_say (hS.blk 0) _ 0 rfl
 simp only [cellsSay, List.drop_zero, Nat.reduceAdd, and_true] at D2 D3
 have hQ1 := fun w => eqSm_run 0 0 0 0 w
 have hQ2 := fun w => eqPlB_run 0 0 0 0 0 0 w
 rw [decide_eq_true rfl] at hQ1 hQ2
 have HSa := Lib.hid (refSame_any A1 none c1 0 [] [] 0 0 W (Bs.nil _ _) (Bs.nil _ _))
 have HB := Lib.hid hS.b
 clear hS
 go_enter Tryz.func12, Tryz.ntmps12
 go_upto_region 1 with fail
 rw [← hW, ← hg3, ← hg2]
 clear hW hg2 hg3
 go_wp2_with (go_at_call 28; refine HSa.out.mono ?_; rintro e w1 ⟨rfl, b1⟩)
 go_ret
 exact ⟨rfl, HB.out.trans (b1.mono HB.out.size)⟩
theorem la_cells {B : Nat} {w0 W : World} {us : List Kt} {gr tn cc : Nat} {T : List Se} (h : Sep B w0 W us) (hm : thR 54 encSe 2 (.slice (some ⟨gr, 0, none⟩) tn cc) T ∈ us) (hs : ∀ y ∈ T, seT y ∈ us) {k : Nat} {y : Se} (hy : T[k]? = some y) :
  W.cell? ⟨gr, k * 2, none⟩ = some (.int .u32 (y.id : Nat)) ∧ W.cell? ⟨gr, k * 2 + 1, none⟩ = some (.slice y.A y.L.length y.c) ∧ Rw W smp 2 y.A y.L := by
 have hr := h.get (t := seT y) (hs y (List.mem_of_getElem? hy))
 obtain ⟨A2, c2, e2, -, h3⟩ := OwnR.row Tryz.eltS hr
 injection e2 with e4 e5 _
 refine ⟨row_cellE Tryz.eltSe (h.get (t := thR 54 encSe 2 (.slice (some ⟨gr, 0, none⟩) tn cc) T) hm) hy 0 _ rfl, ?_, by rw [e4]; exact h3⟩
 rw [← e5]
 exact row_cellE Tryz.eltSe (h.get (t := thR 54 encSe 2 (.slice (some ⟨gr, 0, none⟩) tn cc) T) hm) hy 1 _ rfl
set_option maxHeartbeats 32000000 in
theorem recvRefuses_walk (size : Int) (hsz : in64 size) (V : Option Addr) (c : Nat) (l : List OB) (V2 : Option Addr) (c2 : Nat) (L2 : List FrE) (w : World) (hV : Rw w encOB 17 V l) (hok : ∀ o ∈ l, OkOB o) (hV2 : Rw w encFrE 11 V2 L2) (hok2 : ∀ x ∈ L2, x.f.ok ∧ Bs w x.A x.f.l) (hT : Tab w) :
  Calls Tryz.prog 3 #[.int .i64 size, .slice V l.length c, .slice V2 L2.length c2] w fun e w' => e = .returned (.bool true) ∧ Below w.heap.size w w' := by
 have hmx : Tryz.prog.follows .mixedOrders = true := by kernel_rfl
 have HKn := Lib.hid (rknown_any w hT)
 obtain ⟨n, hn⟩ : ∃ n, n = l.length := ⟨_, rfl⟩
 obtain ⟨n2, hn2⟩ : ∃ n, n = L2.length := ⟨_, rfl⟩
 rw [← hn, ← hn2]
 have HV2 := Lib.hid (And.intro hV2 (And.intro hok2 (And.intro hn2 hT)))
 clear hV2 hok2 hn2
 by_cases h60 : n ≤ 40
 case neg =>
  have k60 : (40 : Int) < (n : Int) := by omega
  clear hV hok hn hT
  go_enter Tryz.func3, Tryz.ntmps3
  go_wp2_with (go_at_call 7; refine HKn.out.mono ?_; rintro e w2 ⟨rfl, b2⟩)
  go_ret
  exact ⟨rfl, b2⟩
 have k60 : ¬ (40 : Int) < (n : Int) := by omega
 by_cases h61 : n2 ≤ 20
 case neg =>
  have k61 : (20 : Int) < (n2 : Int) := by omega
  clear hV hok hn hT
  go_enter Tryz.func3, Tryz.ntmps3
  go_wp2_with (go_at_call 7; refine HKn.out.mono ?_; rintro e w2 ⟨rfl, b2⟩)
  go_ret
  exact ⟨rfl, b2⟩
 have k61 : ¬ (20 : Int) < (n2 : Int) := by omega
 have HLy := Lib.hid (fun (w1 : World) (h : Below w.heap.size w w1) => bLay_any (Sep.nil h h.size) hT (Nat.le_refl _) size hsz V c l hV hok (by omega))
 have hLa : LaI (laSz size) l.length (laD (laSz size) l) := by
  have h1 : 1 ≤ laSz size ∧ laSz size ≤ 24 := by unfold laSz; omega
  have := laD_ok h1.1 h1.2 l hok l.length (Nat.le_refl _) (by omega)
  rw [List.take_length] at this
  exact this
 rw [← hn] at HLy hLa
 obtain ⟨D, hD⟩ : ∃ D, D = laD (laSz size) l := ⟨_, rfl⟩
 rw [← hD] at HLy hLa
 have HLa := Lib.hid hLa
 clear hV hok hn hT hsz hD hLa
 go_enter Tryz.func3, Tryz.ntmps3
 go_upto_region 4 with (first | (go_at_call 7; refine HKn.out.mono ?_; rintro e w1 ⟨rfl, b1⟩) | (go_at_call 8; refine (HLy.out _ b1).mono ?_; rintro e w3 ⟨q, T, A, cc, rfl, hTD, hB⟩))
 rw [List.append_nil] at hB
 obtain ⟨tn, htn⟩ : ∃ n, n = T.length := ⟨_, rfl⟩
 rw [← htn] at hB ⊢
 have htn64 : tn ≤ 64 := by
  have h1 := HLa.out.ok.few
  have h2 := HLa.out.ok.mo2
  have h3 := congrArg List.length hTD
  rw [List.length_map, allD_len] at h3
  omega
 have hMl : D.M.length = tn := by
  have h3 := congrArg List.length hTD
  rw [List.length_map, allD_len] at h3
  rw [htn, h3]
 have HRn := Lib.hid (rnew_any hB)
 have HL := Lib.hid (And.intro hTD (And.intro htn hMl))
 clear hTD hB htn hMl b1 HKn HLy
 go_upto_region 9 with (go_at_call 9; refine HRn.out.mono ?_; rintro e w4 ⟨r, rfl, h4⟩)
 obtain ⟨Ls, hLs⟩ : ∃ Ls, Ls = laT (.slice A tn cc) T := ⟨_, rfl⟩
 rw [← hLs] at h4
 have HMem := Lib.hid (show thR 54 encSe 2 (.slice A tn cc) T ∈ Ls ∧ ∀ y ∈ T, seT y ∈ Ls by
  rw [hLs]
  exact ⟨List.mem_cons_self, fun y hy => List.mem_cons_of_mem _ (List.mem_map_of_mem hy)⟩)
 have H4 := Lib.hid h4
 clear h4 hLs HRn
 go_upto_region 10 with fail
 go_loopw [10, 11, 12, 13, 14, 15, 16] (fun s10 s11 s12 s13 s14 s15 s16 wr => ∃ i ep : Nat, s10 = .int .i64 (i : Nat) ∧ i ≤ n2 ∧ Hid (Rv w.heap.size w wr r q ep D Ls))
  (fun s10 _ _ _ _ _ _ _ => n2 - (intOf s10).toNat)
 case atStart => exact ⟨0, 0, by go_num, Nat.zero_le _, H4⟩
 case round =>
  obtain ⟨i, ep, rfl, hi, HI⟩ := hrel
  obtain ⟨wi, hwi⟩ : ∃ wi, wi = wr := ⟨_, rfl⟩
  rw [← hwi] at HI ⊢
  clear hwi
  by_cases hit : i < n2
  ·have hit2 : (i : Int) < (n2 : Int) := by omega
   obtain ⟨x, hx⟩ : ∃ x, L2[i]? = some x := ⟨_, List.getElem?_eq_getElem (by rw [← HV2.out.2.2.1]; exact hit)⟩
   obtain ⟨pa, po, hpa, hc⟩ := HV2.out.1 i x hx
   subst hpa
   have hoo := HV2.out.2.1 x (List.mem_of_getElem? hx)
   obtain ⟨⟨kd, fe_, se, fc, fb, fn, cn, cl, sm, fl, nn⟩, fA, fcap⟩ := x
   obtain ⟨fll, hfll⟩ : ∃ n, n = fl.length := ⟨_, rfl⟩
   have old : ∀ j q, (#[.int .u8 ((kd : Nat) : Int), .int .u32 ((fe_ : Nat) : Int), .int .u32 ((se : Nat) : Int), .int .u32 ((fc : Nat) : Int), .int .u32 ((fb : Nat) : Int), .int .u32 ((fn : Nat) : Int), .int .u32 ((cn : Nat) : Int), .bool cl, .int .u64 ((sm : Nat) : Int), .slice fA fll fcap, .int .i64 nn] : Array Value).toList[j]? = some q → ∀ W, Below w.heap.size w W → W.cell? ⟨pa, po + i * 11 + j, none⟩ = some q := fun j q hj W b => by
    have h1 := hc j q (by unfold encFrE frC; rw [← hfll]; exact hj)
    exact (b.cell (cell_lt h1)).trans h1
   have HOld := Lib.hid (And.intro old (And.intro hoo hfll))
   clear hx hc old hoo hfll
   have F9 : wi.cell? ⟨pa, po + i * 11 + 9, none⟩ = some (.slice fA fll fcap) := HOld.out.1 9 _ rfl _ HI.out.b
   by_cases h6 : fll ≤ 600
   case neg =>
    have k6 : (600 : Int) < (fll : Int) := by omega
    have HBb := Lib.hid HI.out.b
    clear h6
    go_wp2_with fail
    go_ret
    exact ⟨rfl, HBb.out⟩
   have k6 : ¬ (600 : Int) < (fll : Int) := by omega
   have HEp := Lib.hid (epo_any HI.out)
   have bw0 := HI.out.b
   have F0 : wi.cell? ⟨pa, po + i * 11, none⟩ = some (.int .u8 (kd : Nat)) := HOld.out.1 0 _ rfl _ bw0
   have F1 : wi.cell? ⟨pa, po + i * 11 + 1, none⟩ = some (.int .u32 (fe_ : Nat)) := HOld.out.1 1 _ rfl _ bw0
   have F2 : wi.cell? ⟨pa, po + i * 11 + 2, none⟩ = some (.int .u32 (se : Nat)) := HOld.out.1 2 _ rfl _ bw0
   have F3 : wi.cell? ⟨pa, po + i * 11 + 3, none⟩ = some (.int .u32 (fc : Nat)) := HOld.out.1 3 _ rfl _ bw0
   have F4 : wi.cell? ⟨pa, po + i * 11 + 4, none⟩ = some (.int .u32 (fb : Nat)) := HOld.out.1 4 _ rfl _ bw0
   have F5 : wi.cell? ⟨pa, po + i * 11 + 5, none⟩ = some (.int .u32 (fn : Nat)) := HOld.out.1 5 _ rfl _ bw0
   have F6 : wi.cell? ⟨pa, po + i * 11 + 6, none⟩ = some (.int .u32 (cn : Nat)) := HOld.out.1 6 _ rfl _ bw0
   have F7 : wi.cell? ⟨pa, po + i * 11 + 7, none⟩ = some (.bool cl) := HOld.out.1 7 _ rfl _ bw0
   have F8 : wi.cell? ⟨pa, po + i * 11 + 8, none⟩ = some (.int .u64 (sm : Nat)) := HOld.out.1 8 _ rfl _ bw0
   have F10 : wi.cell? ⟨pa, po + i * 11 + 10, none⟩ = some (.int .i64 nn) := HOld.out.1 10 _ rfl _ bw0
   have hLk : Calls Tryz.prog 11 #[ptB r, .agg #[.int .u8 ((kd : Nat) : Int), .int .u32 ((fe_ : Nat) : Int), .int .u32 ((se : Nat) : Int), .int .u32 ((fc : Nat) : Int), .int .u32 ((fb : Nat) : Int), .int .u32 ((fn : Nat) : Int), .int .u32 ((cn : Nat) : Int), .bool cl, .int .u64 ((sm : Nat) : Int), .slice fA fll fcap, .int .i64 nn]] wi (LkO w.heap.size w r q D Ls (lookF D ep ⟨kd, fe_, se, fc, fb, fn, cn, cl, sm, fl, nn⟩)) := by
    have h1 := look_any HI.out HV2.out.2.2.2 (Nat.le_refl _) ⟨kd, fe_, se, fc, fb, fn, cn, cl, sm, fl, nn⟩ HOld.out.2.1.1 fA fcap (HI.out.sep.bs (Nat.le_refl _) HOld.out.2.1.2) (by show fl.length ≤ 1000; rw [← HOld.out.2.2]; omega)
    simp only [frC] at h1
    rw [← HOld.out.2.2] at h1
    exact h1
   have hle := look_ep D ep ⟨kd, fe_, se, fc, fb, fn, cn, cl, sm, fl, nn⟩
   have her := look_er D ep ⟨kd, fe_, se, fc, fb, fn, cn, cl, sm, fl, nn⟩
   obtain ⟨Lk, hLke⟩ : ∃ L, L = lookF D ep ⟨kd, fe_, se, fc, fb, fn, cn, cl, sm, fl, nn⟩ := ⟨_, rfl⟩
   rw [← hLke] at hLk hle her
   clear hLke
   obtain ⟨ep', ⟨nk, ne, ns, nst, nsv, npc, npb, npn, ncn, ncl, nl, nnn⟩, so, fs, er⟩ := Lk
   dsimp only at hle her
   have HLk := Lib.hid hLk
   have HLe := Lib.hid (And.intro hle her)
   clear hLk hle her bw0 h6
   go_upto_region 16 with (first
    | (go_at_call 10; refine HEp.out.mono ?_; rintro e w5 ⟨rfl, rfl⟩)
    | (go_at_call 11; refine HLk.out.mono ?_; rintro e w7 ⟨A1, c1, U, c3, rfl, h7⟩; simp only [noC]))
   obtain ⟨nll, hnll⟩ : ∃ n, n = nl.length := ⟨_, rfl⟩
   obtain ⟨fsl, hfsl⟩ : ∃ n, n = fs.length := ⟨_, rfl⟩
   rw [← hnll, ← hfsl]
   have h8 := (h7.tail.tail).box #[.int .u8 ((nk : Nat) : Int), .int .u32 ((ne : Nat) : Int), .int .u32 ((ns : Nat) : Int), .int .i64 nst, .int .u64 ((nsv : Nat) : Int), .int .u32 ((npc : Nat) : Int), .int .u32 ((npb : Nat) : Int), .int .u32 ((npn : Nat) : Int), .int .u32 ((ncn : Nat) : Int), .bool ncl, .slice A1 nll c1, .int .i64 nnn] 44
   generalize hV8 : World.alloc _ _ = V8 at h8 ⊢
   obtain ⟨g12, hg12⟩ : ∃ g, g = w7.heap.size := ⟨_, rfl⟩
   rw [← hg12] at h8 ⊢
   have H8 := Lib.hid h8
   have HNl := Lib.hid (And.intro hnll hfsl)
   clear hV8 hg12 h7 h8 hnll hfsl HLk HEp F0 F1 F2 F3 F4 F5 F6 F7 F8 F9 F10
   have hel : ¬ ((ep' : Nat) : Int) < ((ep : Nat) : Int) := by have := HLe.out.1; omega
   have hel2 : decide (ep' < ep) = false := decide_eq_false (by have := HLe.out.1; omega)
   go_cut [90] from 69 to 90 (fun s90 wx => s90 = .bool false ∧ Hid (Rv w.heap.size w wx r q ep' D Ls))
   case first =>
    by_cases h0 : er = 0
    ·subst h0
     have HE := Lib.hid (epo_any H8.out)
     go_wp2_with (go_at_call 10; refine HE.out.mono ?_; rintro e w9 ⟨rfl, rfl⟩)
     go_meet
     exact ⟨rfl, Lib.hid H8.out.tail⟩
    ·obtain ⟨e1, e2, e3⟩ := HLe.out.2 h0
     unfold zeroN at e3
     injection e3 with f1 f2 f3 f4 f5 f6 f7 f8 f9 f10 f11 f12
     subst f1 f2 f3 f4 f5 f6 f7 f8 f9 f10 f11 f12 e1 e2
     have hz1 : nll = 0 := HNl.out.1
     have hz2 : fsl = 0 := HNl.out.2
     subst hz1 hz2
     have m1 : (((er : Nat) : Int) == 0) = false := beq_eq_false_iff_ne.2 (by omega)
     have m2 : (((er : Nat) : Int) != 0) = true := by rw [bne, m1]; rfl
     have D12 := cells_say (H8.out.sep.blk 0) _ 0 rfl
     simp only [cellsSay, List.drop_zero, Nat.reduceAdd, and_true] at D12
     have HSa := Lib.hid (zsame_any A1 c1 V8)
     have HE := Lib.hid (fun (W : World) (b : Below V8.heap.size V8 W) => epo_any (H8.out.go b))
     clear h0
     go_wp2_with (first
      | (go_at_call 12; refine HSa.out.mono ?_; rintro e w9 ⟨rfl, b9⟩)
      | (go_at_call 10; refine (HE.out _ b9).mono ?_; rintro e w10 ⟨rfl, hw⟩; rw [hw]; clear hw))
     go_meet
     exact ⟨rfl, Lib.hid ((H8.out.go b9).tail)⟩
   case rest =>
    obtain ⟨rfl, HR⟩ := hcut
    obtain ⟨W3, hW3⟩ : ∃ Wx, Wx = wc := ⟨_, rfl⟩
    rw [← hW3] at HR ⊢
    clear hW3 H8 HNl hel hel2 HI
    go_upto_region 19 with fail
    go_loopw [16] (fun s16 wr => ∃ k : Nat, s16 = .int .i64 (k : Nat) ∧ k ≤ tn ∧ Hid (Rv w.heap.size w wr r q ep' D Ls))
     (fun s16 _ => tn - (intOf s16).toNat)
    case atStart => exact ⟨0, by go_num, Nat.zero_le _, HR⟩
    case round =>
     obtain ⟨k, rfl, hk, HJ⟩ := hrel
     obtain ⟨wj, hwj⟩ : ∃ wj, wj = wr := ⟨_, rfl⟩
     rw [← hwj] at HJ ⊢
     clear hwj
     by_cases hkt : k < tn
     ·have hkt2 : (k : Int) < (tn : Int) := by omega
      obtain ⟨y0, hy0⟩ : ∃ y, T[k]? = some y := ⟨_, List.getElem?_eq_getElem (by rw [← HL.out.2.1]; exact hkt)⟩
      obtain ⟨gr, hgr, -, -⟩ := row_at Tryz.eltSe (HJ.out.sep.get (t := thR 54 encSe 2 (.slice A tn cc) T) HMem.out.1) hy0
      subst hgr
      have hk2 := la_key HLa.out HL.out.1 hy0
      obtain ⟨id, hid⟩ : ∃ x, x = y0.id := ⟨_, rfl⟩
      rw [← hid] at hk2
      have hid32 : id < 4294967296 := by have := hk2.1; omega
      obtain ⟨yl, hyl⟩ : ∃ x, x = y0.L.length := ⟨_, rfl⟩
      have hyl60 : yl ≤ 60 := by
       have h1 := HLa.out.len id
       rw [hk2.2.1] at h1
       omega
      have hce : ∀ (W : World) (us : List Kt), Sep w.heap.size w W us → (∀ t ∈ Ls, t ∈ us) → W.cell? ⟨gr, k * 2, none⟩ = some (.int .u32 (id : Nat)) ∧ W.cell? ⟨gr, k * 2 + 1, none⟩ = some (.slice y0.A yl y0.c) ∧ Rw W smp 2 y0.A y0.L := fun W us h hm => by
       rw [hid, hyl]
       exact la_cells h (hm _ HMem.out.1) (fun y hy => hm _ (HMem.out.2 y hy)) hy0
      have HCe := Lib.hid hce
      have HC := Lib.hid (And.intro hk2.2.1 (And.intro hyl hyl60))
      clear hy0 hid hk2 hyl hyl60 hce
      go_upto_region 21 with fail
      obtain ⟨I, hI⟩ : ∃ I : Rec → World → Prop, ∀ E W, I E W ↔ (Rv w.heap.size w W r q ep' D Ls ∧ ∀ u, E 6 = some u → ∃ U n, u = .slice U yl n ∧ Rw W smp 2 U y0.L) := ⟨_, fun _ _ => Iff.rfl⟩
      have hI0 : I (fun _ => none) wj.drew := (hI _ _).2 ⟨HJ.out.go (Below.refl _ _).drew, fun u h => by cases h⟩
      haveI : Nonempty (InvW I) := ⟨⟨_, _, hI0⟩⟩
      have e1 := fun (y : InvW I) => (HCe.out y.W _ ((hI _ _).1 y.h).1.sep (fun t h => h)).1
      have e2 := fun (y : InvW I) => (HCe.out y.W _ ((hI _ _).1 y.h).1.sep (fun t h => h)).2.1
      have HI2 := Lib.hid hI
      clear hI
      refine wp_region_inv I [[], [], [], [], [], [], [], [], [], [], [], [], [6], []] [3, 6, 9, 12] (fun k2 v => if k2 = 12 then v = .bool true else if k2 = 6 then ∃ U n, v = .slice U yl n else v = .pointer (some ⟨gr, k * 2, none⟩)) hmx (by kernel_rfl) hI0 ?_
      iterate 3 (refine walkJ_one rfl (by kernel_rfl) ?_; go_big_quiet_step (fail); refine wpQuiet_nil ?_)
      refine walkJ_turn rfl rfl ⟨_, rfl⟩ (fun s W1 hs h7 _ => ?_) ?_
      ·obtain ⟨h, h2⟩ := (HI2.out _ _).1 hs
       exact inv_val (W' := W1) (v := .pointer (some ⟨gr, k * 2, none⟩)) (by simp [execOp, go_sem, hkt2]) ⟨rfl, (HI2.out _ _).2 ⟨h, fun u hu => h2 u (by rw [recSet_ne (by decide)] at hu; exact hu)⟩⟩
      rintro v rfl
      conv => arg 11; simp [Act.put]
      iterate 2 (refine walkJ_one rfl (by kernel_rfl) ?_; go_big_quiet_step (fail); refine wpQuiet_nil ?_)
      refine walkJ_turn rfl rfl ⟨_, none, 0, rfl⟩ (fun s W1 hs h7 _ => ?_) ?_
      ·obtain ⟨h, -⟩ := (HI2.out _ _).1 hs
       have hsm := bk_samples h (tabGo HV2.out.2.2.2 h.b) id hid32
       rw [HC.out.1, ← HC.out.2.1] at hsm
       refine inv_call (by simp [execOp, go_sem]) (hsm.mono ?_)
       rintro e w5 ⟨U, n5, rfl, ho, b5⟩
       refine ⟨_, rfl, ⟨U, n5, rfl⟩, (HI2.out _ _).2 ⟨h.go b5, fun u hu => ?_⟩⟩
       rw [recSet_same] at hu
       injection hu with hu
       obtain ⟨U2, n2, e3, -, h3⟩ := OwnR.row Tryz.eltS ho
       injection e3 with e4 _ _
       exact ⟨U, n5, hu.symm, by rw [e4]; exact h3⟩
      rintro v ⟨U5, n5, rfl⟩
      conv => arg 11; simp [Act.put]
      iterate 2 (refine walkJ_one rfl (by kernel_rfl) ?_; go_big_quiet_step (fail); refine wpQuiet_nil ?_)
      refine walkJ_turn rfl rfl ⟨_, rfl⟩ (fun s W1 hs h7 _ => ?_) ?_
      ·obtain ⟨h, h2⟩ := (HI2.out _ _).1 hs
       exact inv_val (W' := W1) (v := .pointer (some ⟨gr, k * 2, none⟩)) (by simp [execOp, go_sem, hkt2]) ⟨rfl, (HI2.out _ _).2 ⟨h, fun u hu => h2 u (by rw [recSet_ne (by decide)] at hu; exact hu)⟩⟩
      rintro v rfl
      conv => arg 11; simp [Act.put]
      iterate 2 (refine walkJ_one rfl (by kernel_rfl) ?_; go_big_quiet_step (fail); refine wpQuiet_nil ?_)
      refine walkJ_turn rfl rfl ⟨_, rfl⟩ (fun s W1 hs h7 hch => ?_) ?_
      ·obtain ⟨h, h2⟩ := (HI2.out _ _).1 hs
       obtain ⟨U6, n6, e6, hU6⟩ := h2 _ ((hch 6 (by simp)).trans rfl)
       injection e6 with e7 _ e8
       rw [← e7] at hU6
       refine inv_call (by simp [execOp, go_sem]) ((csame_eq U5 y0.A yl n5 y0.c y0.L W1 HC.out.2.1 hU6 (HCe.out W1 _ h.sep (fun t h => h)).2.2 (by rw [← HC.out.2.1]; have := HC.out.2.2; omega)).mono ?_)
       rintro e w6 ⟨rfl, b6⟩
       refine ⟨_, rfl, rfl, (HI2.out _ _).2 ⟨h.go b6, fun u hu => ?_⟩⟩
       rw [recSet_ne (by decide)] at hu
       obtain ⟨U7, n7, e7, h7⟩ := h2 u hu
       exact ⟨U7, n7, e7, h7.below b6 (Nat.le_refl _)⟩
      rintro v rfl
      conv => arg 11; simp [Act.put]
      iterate 1 (refine walkJ_one rfl (by kernel_rfl) ?_; go_big_quiet_step (fail); refine wpQuiet_nil ?_)
      refine walkJ_end ?_
      intro wp hW'
      have HBp := Lib.hid ((HI2.out _ _).1 hW').1
      clear e1 e2 hW' HI2 hI0 HJ
      go_wp2_with fail
      go_roundw
      case measure => simp [intOf]; omega
      case rel => exact ⟨k + 1, by go_num, by omega, HBp⟩
     ·have hkt2 : ¬ (k : Int) < (tn : Int) := by omega
      go_wp2_with fail
      go_roundw
      case measure => simp [intOf]; omega
      case rel => exact ⟨i + 1, ep', by go_num, by omega, HJ⟩
  ·have hit2 : ¬ (i : Int) < (n2 : Int) := by omega
   have hSe := bk_seriesN HI.out
   rw [HL.out.2.2] at hSe
   have HSe := Lib.hid hSe
   clear hSe
   go_wp2_with (go_at_call 15; refine HSe.out.mono ?_; rintro e w9 ⟨U9, c9, rfl, b9⟩)
   go_ret
   exact ⟨rfl, (HI.out.go b9).b⟩
end Go.Proofs.YtmcdollkmlcpbaaGreatDoor
