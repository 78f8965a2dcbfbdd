/- Contracts of the document's own functions of layer 1. -/
import Derived.Test.YtpedobpbpomkaaaBase
namespace Go.Proofs.Ytpedobpbpomkaaa
open Go.RowKit

set_option maxHeartbeats 400000 in
theorem refBit_any (A : Option Addr) (c : Nat) (l : List UInt8) (n : Int) (i : Nat) (w : World) (hb : Bs w A l) (hi : i / 8 < l.length) (hl : l.length ≤ maxLen) :
    Calls Try.prog 54 #[.agg #[.slice A l.length c, .int .i64 n], .int .i64 i] w fun e w' => e = .returned (bv (b2u (bt l i))) ∧ Below w.heap.size w w' := by
  unfold maxLen at hl
  have hpos : 0 < l.length := by omega
  obtain ⟨p, o, rfl, hlt, hc⟩ := hb.at_ hpos
  have hc1 := hc _ hi
  clear hc
  go_enter Try.func54, Try.ntmps54
  go_wp2
  go_ret
  refine ⟨?_, (Below.refl _ _).alloc (Nat.le_refl _) _⟩
  refine ret_int (?_ : bits .and .u8 (((l[i / 8]).toNat : Int) / 2 ^ (7 - i % 8)) 1 = _)
  rw [nat_shr, and_one_u8 _ (by have := (l[i / 8]).toNat_lt; exact Nat.lt_of_le_of_lt (Nat.div_le_self _ _) this), shr_bit]
  rw [b2u_toNat]; simp [bt, hi]

end Go.Proofs.Ytpedobpbpomkaaa
