/- Cut, of bits that are known to be sound. -/
import Derived.Test.YtfooggamdbdniaaBit6
namespace Go.Proofs.Ytfooggamdbdniaa
open Go.RowKit

theorem cut_E (A : Option Addr) (c : Nat) (M : List Bool) (a b : Int) (w : World) (hb : Bs w A (pack M)) (ha : 0 ≤ a) (hab : a ≤ b) (hbm : b ≤ M.length) (hL : M.length ≤ 137438953472) :
    Calls Try.prog 18 #[.agg #[.slice A (pack M).length c, .int .i64 M.length], .int .i64 a, .int .i64 b] w fun e w' =>
      ∃ Q A' c', Hid (Q = (M.drop a.toNat).take (b - a).toNat) ∧ Hid ((Q.length : Int) = b - a) ∧ (Q.length : Int) ≤ b - a ∧ b - a ≤ Q.length ∧ e = .returned (.tuple #[.agg #[.slice A' (pack Q).length c', .int .i64 Q.length], .int .u16 0]) ∧ Bs w' A' (pack Q) ∧ Below w.heap.size w w' := by
  obtain ⟨x, rfl⟩ := Int.eq_ofNat_of_zero_le ha
  obtain ⟨y, rfl⟩ := Int.eq_ofNat_of_zero_le (show 0 ≤ b by omega)
  have h := cut_ok A c (pack M) M.length x y w hb (by have := pack_le M hL; omega) (sound_pack M) (by omega) (by omega)
  rw [cutl_pack _ _ _ (by omega)] at h
  refine h.mono fun e w' ⟨A', c', he, ho, hbel⟩ => ?_
  have hl : ((M.drop x).take (y - x)).length = y - x := by rw [List.length_take, List.length_drop]; omega
  have e1 : ((y : Int) - x).toNat = y - x := by omega
  refine ⟨_, A', c', rfl, ?_, ?_, ?_, ?_, ?_, hbel⟩
  all_goals rw [e1, Int.toNat_natCast]
  · exact Lib.hid (by omega)
  · omega
  · omega
  · rw [← hl] at he; exact (by rw [hl] at he ⊢; exact he)
  · exact ho.bs

end Go.Proofs.Ytfooggamdbdniaa
