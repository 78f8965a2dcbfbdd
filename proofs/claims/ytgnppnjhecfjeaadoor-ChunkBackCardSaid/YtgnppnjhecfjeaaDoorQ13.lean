/- Joined: Xr1, Xr2, Xr3. -/
import Derived.Test.YtgnppnjhecfjeaaDoorQ7
import Derived.Test.YtgnppnjhecfjeaaDoorQ2
import Derived.Outline
import Derived.Test.YtgnppnjhecfjeaaDoorQ6
set_option linter.unusedSimpArgs false
set_option linter.unusedVariables false
/- The small functions of layer 3: bandOf, behind, after; the program's and the document's Sound. -/
namespace Go.Proofs.YtgnppnjhecfjeaaDoor
open Go.RowKit

set_option maxRecDepth 100000 in
theorem bandOf_any (h : Bool) (p l b : Nat) (w : World) (hl : l < 256) (hb : b < 256) :
    Calls Tryd.prog 47 #[.agg #[.bool h, .int .u64 p, .int .u8 l, .int .u8 b]] w fun e w' => e = .returned (.agg #[.int .i64 l, .int .i64 b]) ∧ Below w.heap.size w w' := by
  have e1 : IntKind.i64.wrap (l : Int) = (l : Int) := by rw [IntKind.wrap_i64]; omega
  have e2 : IntKind.i64.wrap (b : Int) = (b : Int) := by rw [IntKind.wrap_i64]; omega
  go_enter Tryd.func47, Tryd.ntmps47
  go_wp2
  exact bodyPost_ret (results_cell_row Tryd.results47 _ _ (w.heap.size + 1) 80 #[.int .i64 l, .int .i64 b] (0, 0) _ rfl (by have h := heap_alloc_new (w.alloc (.cells #[.bool h, .int .u64 p, .int .u8 l, .int .u8 b] 27)) (.cells #[.int .i64 l, .int .i64 b] 80); rw [World.size_alloc] at h; exact h) Tryd.underlying80 rfl (by kernel_rfl)) rfl ⟨rfl, below_alloc2 _ _ _⟩

set_option maxRecDepth 100000 in
theorem behind_any (l b : Int) (w : World) (hl : 0 ≤ l ∧ l ≤ 1000) (hb : 0 ≤ b ∧ b ≤ 1000) :
    Calls Tryd.prog 48 #[.agg #[.int .i64 l, .int .i64 b]] w fun e w' => e = .returned (.int .i64 (64 - l - b)) ∧ Below w.heap.size w w' := by
  obtain ⟨h1, h2⟩ := hl
  obtain ⟨h3, h4⟩ := hb
  go_enter Tryd.func48, Tryd.ntmps48
  go_wp2
  go_ret
  exact ⟨rfl, below_alloc _ _⟩

set_option maxRecDepth 100000 in
theorem after_any (l b v : Nat) (w : World) (hl : l < 256) (hb : b < 256) :
    Calls Tryd.prog 39 #[.agg #[.int .i64 l, .int .i64 b], .int .u64 v] w fun e w' => e = .returned (.agg #[.bool true, .int .u64 v, .int .u8 l, .int .u8 b]) ∧ Below w.heap.size w w' := by
  have e1 : IntKind.u8.wrap (l : Int) = (l : Int) := by rw [IntKind.wrap_u8]; omega
  have e2 : IntKind.u8.wrap (b : Int) = (b : Int) := by rw [IntKind.wrap_u8]; omega
  go_enter Tryd.func39, Tryd.ntmps39
  go_wp2
  exact bodyPost_ret (results_cell_row Tryd.results39 _ _ (w.heap.size + 1) 27 #[.bool true, .int .u64 v, .int .u8 l, .int .u8 b] (0, 0) _ rfl (by have h := heap_alloc_new (w.alloc (.cells #[.int .i64 l, .int .i64 b] 80)) (.cells #[.bool true, .int .u64 v, .int .u8 l, .int .u8 b] 27); rw [World.size_alloc] at h; exact h) Tryd.underlying27 rfl (by kernel_rfl)) rfl ⟨rfl, below_alloc2 _ _ _⟩

end Go.Proofs.YtgnppnjhecfjeaaDoor

/- The program's and the document's Sound of layer 3. -/
namespace Go.Proofs.YtgnppnjhecfjeaaDoor
open Go.RowKit

set_option maxRecDepth 100000 in
set_option maxHeartbeats 1000000 in
theorem xsound_any (h : Bool) (p l b : Nat) (w : World) (hl : l < 256) (hb : b < 256) :
    Calls Tryd.prog 19 #[.agg #[.bool h, .int .u64 p, .int .u8 l, .int .u8 b]] w fun e w' => e = .returned (.bool (soundX ⟨h, p, l, b⟩)) ∧ Below w.heap.size w w' := by
  cases h
  · obtain ⟨r, hr⟩ : ∃ r, r = soundX ⟨false, p, l, b⟩ := ⟨_, rfl⟩
    rw [← hr]
    have HR := Lib.hid hr
    clear hr
    go_enter Tryd.func19, Tryd.ntmps19
    go_wp2
    all_goals
      go_ret
      refine ⟨ret_bool ?_, below_alloc _ _⟩
      rw [HR.out]
      unfold soundX
      simp
    all_goals (first | omega | (rw [Bool.eq_iff_iff]; simp; omega))
  · obtain ⟨r, hr⟩ : ∃ r, r = soundX ⟨true, p, l, b⟩ := ⟨_, rfl⟩
    rw [← hr]
    have HR := Lib.hid hr
    clear hr
    go_enter Tryd.func19, Tryd.ntmps19
    go_wp2_with (first
      | go_at_call 47; refine (bandOf_any _ _ _ _ _ hl hb).mono ?_; rintro e w1 ⟨rfl, b1⟩; have t1 : Below w.heap.size w w1 := go1 b1
      | (go_at_call 48; refine (behind_any _ _ _ (by omega) (by omega)).mono ?_; rintro e w2 ⟨rfl, b2⟩; have t2 : Below w.heap.size w w2 := on t1 b2))
    all_goals
      go_ret
      refine ⟨ret_bool ?_, by first | exact t2 | exact onA t1⟩
      rw [HR.out]
      unfold soundX
      simp
    all_goals (first | omega | (rw [Bool.eq_iff_iff]; simp; omega))

set_option maxRecDepth 100000 in
set_option maxHeartbeats 2000000 in
theorem rxsound_any (h : Bool) (p l b : Nat) (w : World) (hl : l < 256) (hb : b < 256) :
    Calls Tryd.prog 41 #[.agg #[.bool h, .int .u64 p, .int .u8 l, .int .u8 b]] w fun e w' => e = .returned (.bool (soundX ⟨h, p, l, b⟩)) ∧ Below w.heap.size w w' := by
  have e1 : IntKind.i64.wrap (l : Int) = (l : Int) := by rw [IntKind.wrap_i64]; omega
  have e2 : IntKind.i64.wrap (b : Int) = (b : Int) := by rw [IntKind.wrap_i64]; omega
  have e3 : IntKind.i64.wrap ((l : Int) + (b : Int)) = (l : Int) + (b : Int) := by rw [IntKind.wrap_i64]; omega
  obtain ⟨r, hr⟩ : ∃ r, r = soundX ⟨h, p, l, b⟩ := ⟨_, rfl⟩
  rw [← hr]
  have HR := Lib.hid hr
  clear hr
  cases h
  all_goals
    go_enter Tryd.func41, Tryd.ntmps41
    go_wp2_with fail
  all_goals
    go_ret
    refine ⟨ret_bool ?_, below_alloc _ _⟩
    rw [HR.out]
    unfold soundX
    simp
  all_goals (first | omega | (rw [Bool.eq_iff_iff]; simp; omega) | (simp at *; omega))

end Go.Proofs.YtgnppnjhecfjeaaDoor

/- The document's put of layer 3. -/
namespace Go.Proofs.YtgnppnjhecfjeaaDoor
open Go.RowKit

theorem xand_one_big (x : Nat) (hx : x < 18446744073709551616) : bits .and .u64 (x : Int) 1 = ((x % 2 : Nat) : Int) := by
  have h := bits_mask .u64 64 (by decide) (fun n h0 h1 => by simp [IntKind.wrap, IntKind.bits, IntKind.signed]; omega) 1 (by decide) (x : Int) (by omega) (by omega)
  rw [show ((2 : Int) ^ 1 - 1) = 1 from rfl] at h
  rw [h]; omega
theorem xbit_val (v k : Nat) (hv : v < 18446744073709551616) : Value.int .u8 (bits .and .u64 ((v : Int) / 2 ^ k) 1 % 256) = bv (b2u (v.testBit k)) := by
  rw [nat_shr, xand_one_big _ (Nat.lt_of_le_of_lt (Nat.div_le_self _ _) hv), shr_bit, bv, b2u_toNat]
  congr 1
  have := b2n_le (v.testBit k)
  omega
theorem xvalB_take (v n t : Nat) (ht : t < n) : (valB v n).take (t + 1) = (valB v n).take t ++ [v.testBit (n - 1 - t)] := by
  rw [List.take_succ_eq_append_getElem (by rw [valB_length]; exact ht)]
  simp [valB]

set_option maxRecDepth 100000 in
set_option maxHeartbeats 1000000 in
theorem rput_any (base : Nat) (V : Value) (M : List Bool) (v d : Nat) (w0 w : World) (tB : Below base w0 w) (hv : v < 18446744073709551616) (hd : d ≤ 64) (hown : OwnB w base V (u8s M)) (hM : M.length ≤ 100000) (hz : base ≤ w.heap.size) :
    Calls Tryd.prog 65 #[V, .int .u64 v, .int .i64 d] w fun e w' => ∃ A' n' c', e = .returned (.slice A' n' c') ∧ n' = (M ++ valB v d).length ∧ OwnB w' base (.slice A' n' c') (u8s (M ++ valB v d)) ∧ Below base w0 w' ∧ base ≤ w'.heap.size := by
  go_enter Tryd.func65, Tryd.ntmps65
  go_wp2_with fail
  go_loopw [0, 7] (fun vl i wr => ∃ j : Nat, j ≤ d ∧ i = .int .i64 ((j : Int) - 1) ∧ OwnB wr base vl (u8s (M ++ (valB v d).take (d - j))) ∧ Below base w0 wr ∧ base ≤ wr.heap.size)
    (fun _ i _ => (intOf i + 1).toNat)
  case atStart => exact ⟨d, Nat.le_refl _, by simp, by simpa using hown, tB, hz⟩
  case round =>
    obtain ⟨j, hj, rfl, ho, hbel, zr⟩ := hrel
    by_cases hlt : 0 < j
    · obtain ⟨i, rfl⟩ : ∃ i, j = i + 1 := ⟨j - 1, by omega⟩
      have HV := Lib.hid (xbit_val v i hv)
      rw [show ((i + 1 : Nat) : Int) - 1 = (i : Int) by omega]
      go_wp2_with (at_builtin; go_must (refine appB _ rfl (.tmp 14) (.tmp 21) rfl base _ _ rfl (ho.alloc _) wr.heap.size (b2u (v.testBit i)) rfl (box_cell _ _ _ _ _ (congrArg some HV.out)) (by rw [u8s_length, List.length_append, List.length_take, valB_length]; omega) (by simp; omega) ?_); intro g2 cap2 w3 hown3 hbel3)
      go_roundw
      case measure => simp [intOf]
      case rel =>
        refine ⟨i, by omega, rfl, ?_, (hbel.trans ((below_alloc wr _).mono zr)).trans hbel3, Nat.le_trans (by simp; omega) hbel3.size⟩
        rw [show d - i = (d - (i + 1)) + 1 by omega, xvalB_take _ _ _ (by omega), show d - 1 - (d - (i + 1)) = i by omega, ← List.append_assoc, u8s_snoc]; exact hown3
    · obtain rfl : j = 0 := by omega
      have ho2 := ho
      rw [show d - 0 = d by omega, List.take_of_length_le (by rw [valB_length]; exact Nat.le_refl _)] at ho2
      obtain ⟨A', c', hv9, _⟩ := ho2.isB
      subst hv9
      rw [show ((0 : Nat) : Int) - 1 = -1 by omega]
      go_wp2_with fail
      go_ret
      exact ⟨_, _, _, rfl, by rw [u8s_length], ho2, hbel, zr⟩

end Go.Proofs.YtgnppnjhecfjeaaDoor
