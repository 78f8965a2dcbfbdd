/- Contracts on bits that are known to be sound: the bytes of a list of bits. -/
import Derived.Test.YtbogjnfjnchfhaaOwn
import Derived.Test.YtbogjnfjnchfhaaLaw2
import Derived.Test.YtbogjnfjnchfhaaLaw3
import Derived.Test.YtbogjnfjnchfhaaBitE
import Derived.Test.YtbogjnfjnchfhaaRef9
namespace Go.Proofs.Ytbogjnfjnchfhaa
open Go.RowKit

theorem some_M (A : Option Addr) (c : Nat) (l : List UInt8) (n : Int) (M : List Bool) (w : World) (hM : M = bitl l (someN l n)) (hb : Bs w A l) (hn : -9223372036854775808 ≤ n ∧ n ≤ 9223372036854775807) (hl : l.length ≤ 1099511627776) :
    Calls Try.prog 19 #[.agg #[.slice A l.length c, .int .i64 n]] w fun e w' =>
      ∃ A' c', e = .returned (.agg #[.slice A' (pack M).length c', .int .i64 M.length]) ∧ OwnB w' w.heap.size (.slice A' (pack M).length c') (pack M) ∧ Below w.heap.size w w' := by
  have h := some_any A c l n w hb hn hl
  have e : M.length = someN l n := by rw [hM, bitl_length]
  rw [← hM, ← e] at h
  exact h

theorem same_M (A A' : Option Addr) (c c' : Nat) (M M' : List Bool) (w : World) (hb : Bs w A (pack M)) (hb' : Bs w A' (pack M')) :
    Calls Try.prog 16 #[.agg #[.slice A (pack M).length c, .int .i64 M.length], .agg #[.slice A' (pack M').length c', .int .i64 M'.length]] w fun e w' => e = .returned (.bool (decide (M = M'))) ∧ Below w.heap.size w w' := by
  have h := refSame_any A A' c c' (pack M) (pack M') M.length M'.length w hb hb'
  have e : (decide ((M.length : Int) = M'.length) && decide (pack M = pack M')) = decide (M = M') := by
    rw [Bool.eq_iff_iff, Bool.and_eq_true, decide_eq_true_eq, decide_eq_true_eq, decide_eq_true_eq, ← pack_eq_iff, show (((M.length : Int) = M'.length) ↔ M.length = M'.length) by omega]
  rw [e] at h
  exact h

theorem some_E (A : Option Addr) (c : Nat) (l : List UInt8) (n : Int) (w : World) (hb : Bs w A l) (hn : -9223372036854775808 ≤ n ∧ n ≤ 9223372036854775807) (hl : l.length ≤ 1099511627776) :
    Calls Try.prog 19 #[.agg #[.slice A l.length c, .int .i64 n]] w fun e w' =>
      ∃ M A' c', M.length ≤ 8 * l.length ∧ e = .returned (.agg #[.slice A' (pack M).length c', .int .i64 M.length]) ∧ Bs w' A' (pack M) ∧ Below w.heap.size w w' :=
  (some_M A c l n _ w rfl hb hn hl).mono fun e w' ⟨A', c', he, ho, hbel⟩ => ⟨_, A', c', by rw [bitl_length]; exact someN_le l n, he, ho.bs, hbel⟩

end Go.Proofs.Ytbogjnfjnchfhaa
