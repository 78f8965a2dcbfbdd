/- Layer 23: the statements' helpers: known, set. -/
import Derived.Test.YtfbnobhecfgahaaSp9
import Derived.Test.YtfbnobhecfgahaaSp12
set_option linter.unusedSimpArgs false
set_option linter.unusedVariables false
namespace Go.Proofs.Ytfbnobhecfgahaa
open Go.RowKit
set_option maxRecDepth 100000

theorem sl_nil (w : World) : Sl w none 0 [] := ⟨Rw.nil _ _ _ _, Nat.le_refl _, Nat.zero_le _, fun _ => rfl⟩
theorem k57 : AddR [] (5, 7) [(5, 7)] := ⟨by decide, fun t => by rw [mem_single]; simp [mem_nil], fun x hx => by rw [List.mem_singleton.1 hx]; unfold In; omega, by decide⟩
theorem k89 : AddR [(5, 7)] (8, 9) [(5, 9)] := ⟨by decide, fun t => by rw [mem_single, mem_single]; simp only; omega, fun x hx => by rw [List.mem_singleton.1 hx]; unfold In; omega, by decide⟩
theorem k66 : DropR [(5, 9)] (6, 6) [(5, 5), (7, 9)] := ⟨by decide, fun t => by rw [mem_single, mem_cons, mem_single]; simp only; omega, fun x hx => by
  simp only [List.mem_cons, List.not_mem_nil, or_false] at hx
  rcases hx with rfl | rfl <;> (unfold In; omega), by decide⟩
theorem kcnt : cntR [(5, 5), (7, 9)] = (4, true) := by decide

set_option maxHeartbeats 4000000 in
theorem sknown_any (w : World) : Calls Try.prog 10 #[] w fun e w' => e = .returned (.bool true) ∧ Below w.heap.size w w' := by
  go_enter Try.func10, Try.ntmps10
  go_wp2_with fail
  refine (add_yes none 0 [] 5 7 w (sl_nil _) (fun x h => by cases h) (by simp) Snd.nil (by decide) (by unfold In; omega) (by unfold In; omega)).mono ?_
  rintro e w1 ⟨⟨R, A1, c1, hR, rfl, h1⟩, b1⟩
  obtain rfl := hR.uniq k57
  have H1 := Lib.hid (sl_own h1)
  have HB1 := Lib.hid b1
  clear h1 b1 hR
  go_wp2_with fail
  refine (add_yes A1 c1 [(5, 7)] 8 9 w1 H1.out (fun x hx => by rw [List.mem_singleton.1 hx]; unfold In; omega) (by simp) (by decide) (by decide) (by unfold In; omega) (by unfold In; omega)).mono ?_
  rintro e w2 ⟨⟨R, A2, c2, hR, rfl, h2⟩, b2⟩
  obtain rfl := hR.uniq k89
  have H2 := Lib.hid (sl_own h2)
  have HB2 := Lib.hid (HB1.out.trans (b2.mono HB1.out.size))
  clear h2 b2 hR H1
  go_wp2_with fail
  refine (drop_yes A2 c2 [(5, 9)] 6 6 w2 H2.out (fun x hx => by rw [List.mem_singleton.1 hx]; unfold In; omega) (by simp) (by decide) (by decide) (by unfold In; omega) (by unfold In; omega)).mono ?_
  rintro e w3 ⟨⟨R, A3, c3, hR, rfl, h3⟩, b3⟩
  obtain rfl := hR.uniq k66
  have H3 := Lib.hid (sl_own h3)
  have H2' := Lib.hid (H2.out.below b3 (Nat.le_refl _))
  have HB3 := Lib.hid (HB2.out.trans (b3.mono HB2.out.size))
  clear h3 b3 hR H2
  have hC := count_any A3 c3 [(5, 5), (7, 9)] w3 H3.out.ps (fun x hx => by
    simp only [List.mem_cons, List.not_mem_nil, or_false] at hx
    rcases hx with rfl | rfl <;> (unfold In; omega)) (by simp)
  rw [kcnt] at hC
  have HC := Lib.hid hC
  clear hC
  go_wp2_with fail
  refine HC.out.mono ?_
  rintro e w4 ⟨rfl, b4⟩
  have H34 := Lib.hid (H3.out.below b4 (Nat.le_refl _))
  have H24 := Lib.hid (H2'.out.below b4 (Nat.le_refl _))
  have HB4 := Lib.hid (HB3.out.trans (b4.mono HB3.out.size))
  clear b4 HC H3 H2'
  go_wp2_with fail
  have h5 := below_alloc w4 (.cells #[.int .i64 5, .int .i64 9] 24)
  have hS := ssame_any A2 (some ⟨w4.heap.size, 0, none⟩) c2 1 [(5, 9)] [(5, 9)] _ (H24.out.below h5 (Nat.le_refl _)).ps (rw_one (Blk.new w4 _ _) rfl) (by simp) (by simp)
  rw [decide_eq_true rfl] at hS
  have HB5 := Lib.hid (HB4.out.trans (h5.mono HB4.out.size))
  have H35 := Lib.hid (H34.out.below h5 (Nat.le_refl _))
  refine hS.mono ?_
  rintro e w6 ⟨rfl, b6⟩
  have H36 := Lib.hid (H35.out.below b6 (Nat.le_refl _))
  have HB6 := Lib.hid (HB5.out.trans (b6.mono HB5.out.size))
  clear b6 hS h5 H34 H35
  go_wp2_with fail
  have h7 := below_alloc w6 (.cells #[.int .i64 5, .int .i64 5, .int .i64 7, .int .i64 9] 24)
  have hS := ssame_any A3 (some ⟨w6.heap.size, 0, none⟩) c3 2 [(5, 5), (7, 9)] [(5, 5), (7, 9)] _ (H36.out.below h7 (Nat.le_refl _)).ps (fun i x hx => by
    refine ⟨w6.heap.size, 0, rfl, fun j v hj => ?_⟩
    have hb := Blk.new w6 24 #[.int .i64 5, .int .i64 5, .int .i64 7, .int .i64 9]
    match i, hx with
    | 0, hx =>
      injection hx with hx; subst hx
      match j, hj with
      | 0, hj => injection hj with hj; subst hj; exact hb.cell 0
      | 1, hj => injection hj with hj; subst hj; exact hb.cell 1
    | 1, hx =>
      injection hx with hx; subst hx
      match j, hj with
      | 0, hj => injection hj with hj; subst hj; exact hb.cell 2
      | 1, hj => injection hj with hj; subst hj; exact hb.cell 3) (by simp) (by simp)
  rw [decide_eq_true rfl] at hS
  have HB7 := Lib.hid (HB6.out.trans (h7.mono HB6.out.size))
  refine hS.mono ?_
  rintro e w8 ⟨rfl, b8⟩
  have HB8 := Lib.hid (HB7.out.trans (b8.mono HB7.out.size))
  clear b8 hS h7
  go_wp2_with fail
  go_ret
  exact ⟨rfl, HB8.out⟩

end Go.Proofs.Ytfbnobhecfgahaa
