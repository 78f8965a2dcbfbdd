/- The document's put of layer 3. -/
import Derived.Test.YtfooggamdbdniaaDoorXr2
import Derived.Test.YtfooggamdbdniaaDoorApp
import Derived.Test.YtfooggamdbdniaaDoorRef8
namespace Go.Proofs.YtfooggamdbdniaaDoor
open Go.RowKit

theorem xand_one_big (x : Nat) (hx : x < 18446744073709551616) : bits .and .u64 (x : Int) 1 = ((x % 2 : Nat) : Int) := by
  have h := bits_mask .u64 64 (by decide) (fun n h0 h1 => by simp [IntKind.wrap, IntKind.bits, IntKind.signed]; omega) 1 (by decide) (x : Int) (by omega) (by omega)
  rw [show ((2 : Int) ^ 1 - 1) = 1 from rfl] at h
  rw [h]; omega
theorem xbit_val (v k : Nat) (hv : v < 18446744073709551616) : Value.int .u8 (bits .and .u64 ((v : Int) / 2 ^ k) 1 % 256) = bv (b2u (v.testBit k)) := by
  rw [nat_shr, xand_one_big _ (Nat.lt_of_le_of_lt (Nat.div_le_self _ _) hv), shr_bit, bv, b2u_toNat]
  congr 1
  have := b2n_le (v.testBit k)
  omega
theorem xvalB_take (v n t : Nat) (ht : t < n) : (valB v n).take (t + 1) = (valB v n).take t ++ [v.testBit (n - 1 - t)] := by
  rw [List.take_succ_eq_append_getElem (by rw [valB_length]; exact ht)]
  simp [valB]

set_option maxRecDepth 100000 in
set_option maxHeartbeats 1000000 in
theorem rput_any (base : Nat) (V : Value) (M : List Bool) (v d : Nat) (w0 w : World) (tB : Below base w0 w) (hv : v < 18446744073709551616) (hd : d ≤ 64) (hown : OwnB w base V (u8s M)) (hM : M.length ≤ 100000) (hz : base ≤ w.heap.size) :
    Calls Tryd.prog 36 #[V, .int .u64 v, .int .i64 d] w fun e w' => ∃ A' n' c', e = .returned (.slice A' n' c') ∧ n' = (M ++ valB v d).length ∧ OwnB w' base (.slice A' n' c') (u8s (M ++ valB v d)) ∧ Below base w0 w' ∧ base ≤ w'.heap.size := by
  go_enter Tryd.func36, Tryd.ntmps36
  go_wp2_with fail
  go_loopw [0, 7] (fun vl i wr => ∃ j : Nat, j ≤ d ∧ i = .int .i64 ((j : Int) - 1) ∧ OwnB wr base vl (u8s (M ++ (valB v d).take (d - j))) ∧ Below base w0 wr ∧ base ≤ wr.heap.size)
    (fun _ i _ => (intOf i + 1).toNat)
  case atStart => exact ⟨d, Nat.le_refl _, by simp, by simpa using hown, tB, hz⟩
  case round =>
    obtain ⟨j, hj, rfl, ho, hbel, zr⟩ := hrel
    by_cases hlt : 0 < j
    · obtain ⟨i, rfl⟩ : ∃ i, j = i + 1 := ⟨j - 1, by omega⟩
      have HV := Lib.hid (xbit_val v i hv)
      rw [show ((i + 1 : Nat) : Int) - 1 = (i : Int) by omega]
      go_wp2_with (at_builtin; go_must (refine appB _ rfl (.tmp 14) (.tmp 21) rfl base _ _ rfl (ho.alloc _) wr.heap.size (b2u (v.testBit i)) rfl (box_cell _ _ _ _ _ (congrArg some HV.out)) (by rw [u8s_length, List.length_append, List.length_take, valB_length]; omega) (by simp; omega) ?_); intro g2 cap2 w3 hown3 hbel3)
      go_roundw
      case measure => simp [intOf]
      case rel =>
        refine ⟨i, by omega, rfl, ?_, (hbel.trans ((below_alloc wr _).mono zr)).trans hbel3, Nat.le_trans (by simp; omega) hbel3.size⟩
        rw [show d - i = (d - (i + 1)) + 1 by omega, xvalB_take _ _ _ (by omega), show d - 1 - (d - (i + 1)) = i by omega, ← List.append_assoc, u8s_snoc]; exact hown3
    · obtain rfl : j = 0 := by omega
      have ho2 := ho
      rw [show d - 0 = d by omega, List.take_of_length_le (by rw [valB_length]; exact Nat.le_refl _)] at ho2
      obtain ⟨A', c', hv9, _⟩ := ho2.isB
      subst hv9
      rw [show ((0 : Nat) : Int) - 1 = -1 by omega]
      go_wp2_with fail
      go_ret
      exact ⟨_, _, _, rfl, by rw [u8s_length], ho2, hbel, zr⟩

end Go.Proofs.YtfooggamdbdniaaDoor
