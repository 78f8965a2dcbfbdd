/- Joined: ShelfB. -/
import Derived.Shelf.Small.Bits
import Derived.Shelf.Strconv.Itoa0
import Derived.Shelf.Spec.TrailingZeros
import Derived.Test.YtiliineopplinaaDoorProg
set_option linter.unusedSimpArgs false
set_option linter.unusedVariables false
/- Contracts of the library's counts of leading and trailing noughts at this program: laid off the shelf, in plain words (the numbers by name). -/
namespace Go.Proofs
open Go.Shelf
def YtiliineopplinaaDoor.lays134_ren : Go.Shelf.Ren := ⟨fun | 134 => 94 | 129 => 70 | n => n, fun | 53 => 24 | 3 => 3 | 4 => 4 | 46 => 28 | 5 => 5 | 9 => 9 | n => n, fun | n => n⟩
theorem YtiliineopplinaaDoor.lays134 : Go.Proofs.Lays.n134 Tryd.prog YtiliineopplinaaDoor.lays134_ren := {
  mixed := by kernel_rfl
  f129 := Tryd.func70.trans (congrArg some (by kernel_rfl))
  f134 := Tryd.func94.trans (congrArg some (by kernel_rfl))
  t3 := Tryd.underlying3
  a3 := Tryd.isAgg3
  z3 := Tryd.sizeOf3
  v3 := Tryd.zeroValue3
  t4 := Tryd.underlying4
  a4 := Tryd.isAgg4
  z4 := Tryd.sizeOf4
  v4 := Tryd.zeroValue4
  t5 := Tryd.underlying5
  a5 := Tryd.isAgg5
  z5 := Tryd.sizeOf5
  v5 := Tryd.zeroValue5
  t9 := Tryd.underlying9
  a9 := Tryd.isAgg9
  z9 := Tryd.sizeOf9
  v9 := Tryd.zeroValue9
  t46 := Tryd.underlying28
  a46 := Tryd.isAgg28
  z46 := Tryd.sizeOf28
  v46 := Tryd.zeroValue28
  t53 := Tryd.underlying24
  a53 := Tryd.isAgg24
  z53 := Tryd.sizeOf24
  v53 := Tryd.zeroValue24 }
theorem YtiliineopplinaaDoor.lz64 (x : Int) (w : World) (h0 : 0 ≤ x) (h1 : x ≤ 18446744073709551615) :
    Calls Tryd.prog 94 #[.int .u64 x] w fun e w' => e = .returned (.int .i64 (64 - (Lib.bitLen x.toNat : Int))) ∧ w' = w := Any.bits_LeadingZeros64 YtiliineopplinaaDoor.lays134 x w h0 h1
def YtiliineopplinaaDoor.lays29_ren : Go.Shelf.Ren := ⟨fun | 29 => 95 | n => n, fun | 0 => 0 | 3 => 3 | 4 => 4 | 5 => 5 | 22 => 24 | 25 => 28 | 54 => 177 | n => n, fun | 1 => 0 | n => n⟩
theorem YtiliineopplinaaDoor.lays29 : Go.Proofs.Lays7.n29 Tryd.prog YtiliineopplinaaDoor.lays29_ren := {
  mixed := by kernel_rfl
  f29 := Tryd.func95.trans (congrArg some (by kernel_rfl))
  t0 := Tryd.underlying0
  a0 := Tryd.isAgg0
  z0 := Tryd.sizeOf0
  v0 := Tryd.zeroValue0
  i0 := by kernel_rfl
  t3 := Tryd.underlying3
  a3 := Tryd.isAgg3
  z3 := Tryd.sizeOf3
  v3 := Tryd.zeroValue3
  i3 := by kernel_rfl
  t4 := Tryd.underlying4
  a4 := Tryd.isAgg4
  z4 := Tryd.sizeOf4
  v4 := Tryd.zeroValue4
  i4 := by kernel_rfl
  t5 := Tryd.underlying5
  a5 := Tryd.isAgg5
  z5 := Tryd.sizeOf5
  v5 := Tryd.zeroValue5
  i5 := by kernel_rfl
  t22 := Tryd.underlying24
  a22 := Tryd.isAgg24
  z22 := Tryd.sizeOf24
  v22 := Tryd.zeroValue24
  i22 := by kernel_rfl
  t25 := Tryd.underlying28
  a25 := Tryd.isAgg28
  z25 := Tryd.sizeOf28
  v25 := Tryd.zeroValue28
  i25 := by kernel_rfl
  t54 := Tryd.underlying177
  a54 := Tryd.isAgg177
  z54 := Tryd.sizeOf177
  g1 := by kernel_rfl }
/-- the library's table lies in its variable -/
def YtiliineopplinaaDoor.Tab (w : World) : Prop := TabAt 0 Lib.deBruijn64tab w
theorem YtiliineopplinaaDoor.tz64 (x : Nat) (hx : x < 18446744073709551616) (w : World) (hT : YtiliineopplinaaDoor.Tab w) :
    Calls Tryd.prog 95 #[.int .u64 x] w fun e w' => e = .returned (.int .i64 (Lib.ctz 64 x)) ∧ w' = w := Any7.bits_TrailingZeros64 YtiliineopplinaaDoor.lays29 x hx w fun _ => hT
end Go.Proofs
