/- Joined: Srt11. -/
import Derived.Test.YtmcdollkmlcpbaaGreatDoorQ23
import Derived.Test.YtmcdollkmlcpbaaGreatDoorQ3
import Derived.Lib.ItoaNum
set_option linter.unusedSimpArgs false
set_option linter.unusedVariables false
set_option linter.unusedSimpArgs false
set_option linter.unusedVariables false
namespace Go.Proofs.YtmcdollkmlcpbaaGreatDoor
open Go.RowKit
set_option maxRecDepth 100000
theorem bl_eq (x : Nat) (h : x < 18446744073709551616) : Lib.bitLen x = Go.Sort.bitsLen x := by
 by_cases h0 : x = 0
 ·subst h0; rfl
 ·have hb := Lib.bitLenAux_bounds 64 x (by omega) h0
  have h1 := (Go.Sort.bitsLen_le_iff x (Lib.bitLen x)).2 hb.2.2
  have h2 : ¬ Go.Sort.bitsLen x ≤ Lib.bitLen x - 1 := fun h => by
   have := (Go.Sort.bitsLen_le_iff x (Lib.bitLen x - 1)).1 h
   have h3 : 2 ^ (Lib.bitLen x - 1) ≤ x := hb.2.1
   omega
  omega
theorem bl_le (x : Nat) (h : x ≤ 1000000000000) : Go.Sort.bitsLen x ≤ 40 := (Go.Sort.bitsLen_le_iff x 40).2 (Nat.lt_of_le_of_lt h (by decide))
theorem len_any (x : Nat) (w : World) (hx : x ≤ 1000000000000) : Calls Tryz.prog 66 #[.int .u64 (x : Nat)] w fun e w' => e = .returned (.int .i64 (Go.Sort.bitsLen x : Nat)) ∧ w' = w := by
 have HC := Lib.hid (YtmcdollkmlcpbaaGreatDoor.len64 (x : Int) w (by omega) (by omega))
 obtain ⟨k, hk⟩ : ∃ k, k = Lib.bitLen ((x : Int).toNat) := ⟨_, rfl⟩
 have hk2 : Go.Sort.bitsLen x = k := by rw [hk, Int.toNat_natCast, bl_eq x (by omega)]
 rw [hk2]
 rw [← hk] at HC
 clear hk hk2
 go_enter Tryz.func66, Tryz.ntmps66
 go_wp2_with fail
 refine HC.out.mono ?_
 rintro e w' ⟨rfl, hw⟩
 rw [hw]
 clear hw HC
 go_wp2_with fail
 go_ret
 exact ⟨rfl, rfl⟩
theorem pow2_any (x : Nat) (w : World) (hx : x ≤ 1000000000000) : Calls Tryz.prog 100 #[.int .i64 (x : Nat)] w fun e w' => e = .returned (.int .u64 ((1 <<< Go.Sort.bitsLen x : Nat) : Nat)) ∧ w' = w := by
 have HC := Lib.hid (len_any x w hx)
 obtain ⟨k, hk⟩ : ∃ k, k = Go.Sort.bitsLen x := ⟨_, rfl⟩
 have hk40 := bl_le x hx
 rw [← hk] at HC hk40 ⊢
 obtain ⟨m, hm⟩ : ∃ m : Nat, m = 1 <<< k := ⟨_, rfl⟩
 rw [← hm]
 have hmk : 2 ^ k = m := by rw [hm, Nat.one_shiftLeft]
 have hm40 : m ≤ 2 ^ 40 := by rw [← hmk]; exact Nat.pow_le_pow_right (by omega) hk40
 have hm41 : m ≤ 1099511627776 := hm40
 have hwm : IntKind.u64.wrap ((2 : Int) ^ k) = (m : Int) := by
  rw [show ((2 : Int) ^ k) = ((2 ^ k : Nat) : Int) by simp, hmk, IntKind.wrap_u64]
  omega
 have hk0 : (0 : Int) ≤ (k : Int) := by omega
 have hk64 : (k : Int) < 64 := by omega
 clear hk hm hmk hm40
 go_enter Tryz.func100, Tryz.ntmps100
 go_wp2_with fail
 refine HC.out.mono ?_
 rintro e w' ⟨rfl, hw⟩
 rw [hw]
 clear hw HC
 go_wp2_with fail
 go_ret
 exact ⟨rfl, rfl⟩
theorem nan_any (x : Nat) (w : World) : Calls Tryz.prog 104 #[.int .u32 (x : Nat)] w fun e w' => e = .returned (.bool false) ∧ w' = w := by
 go_enter Tryz.func104, Tryz.ntmps104
 go_wp2_with fail
 go_ret
 exact ⟨rfl, rfl⟩
def ltN (x y : Nat) : Bool := decide (x < y)
theorem less_u32 (x y : Nat) (w : World) : Calls Tryz.prog 83 #[.int .u32 (x : Nat), .int .u32 (y : Nat)] w fun e w' => e = .returned (.bool (ltN x y)) ∧ w' = w := by
 have HC := Lib.hid (nan_any x w)
 obtain ⟨r, hr⟩ : ∃ r, r = ltN x y := ⟨_, rfl⟩
 have hr2 : decide (x < y) = r := by rw [hr]; rfl
 rw [← hr]
 clear hr
 go_enter Tryz.func83, Tryz.ntmps83
 go_wp2_with fail
 refine HC.out.mono ?_
 rintro e w' ⟨rfl, hw⟩
 rw [hw]
 clear hw HC
 go_wp2_with fail
 go_ret
 exact ⟨rfl, rfl⟩
end Go.Proofs.YtmcdollkmlcpbaaGreatDoor
