/- Joined: ShelfB. -/
import Derived.Shelf.Small.Bits
import Derived.Shelf.Strconv.Itoa0
import Derived.Shelf.Spec.TrailingZeros
import Derived.Test.YtiipmjdmmoaodaaGreatDoorProg
set_option linter.unusedSimpArgs false
set_option linter.unusedVariables false
/- Contracts of the library's counts of leading and trailing noughts at this program: laid off the shelf, in plain words (the numbers by name). -/
namespace Go.Proofs
open Go.Shelf
def YtiipmjdmmoaodaaGreatDoor.lays134_ren : Go.Shelf.Ren := ⟨fun | 134 => 102 | 129 => 71 | n => n, fun | 53 => 26 | 3 => 3 | 4 => 4 | 46 => 118 | 5 => 5 | 9 => 9 | n => n, fun | n => n⟩
theorem YtiipmjdmmoaodaaGreatDoor.lays134 : Go.Proofs.Lays.n134 Tryz.prog YtiipmjdmmoaodaaGreatDoor.lays134_ren := {
  mixed := by kernel_rfl
  f129 := Tryz.func71.trans (congrArg some (by kernel_rfl))
  f134 := Tryz.func102.trans (congrArg some (by kernel_rfl))
  t3 := Tryz.underlying3
  a3 := Tryz.isAgg3
  z3 := Tryz.sizeOf3
  v3 := Tryz.zeroValue3
  t4 := Tryz.underlying4
  a4 := Tryz.isAgg4
  z4 := Tryz.sizeOf4
  v4 := Tryz.zeroValue4
  t5 := Tryz.underlying5
  a5 := Tryz.isAgg5
  z5 := Tryz.sizeOf5
  v5 := Tryz.zeroValue5
  t9 := Tryz.underlying9
  a9 := Tryz.isAgg9
  z9 := Tryz.sizeOf9
  v9 := Tryz.zeroValue9
  t46 := Tryz.underlying118
  a46 := Tryz.isAgg118
  z46 := Tryz.sizeOf118
  v46 := Tryz.zeroValue118
  t53 := Tryz.underlying26
  a53 := Tryz.isAgg26
  z53 := Tryz.sizeOf26
  v53 := Tryz.zeroValue26 }
theorem YtiipmjdmmoaodaaGreatDoor.lz64 (x : Int) (w : World) (h0 : 0 ≤ x) (h1 : x ≤ 18446744073709551615) :
    Calls Tryz.prog 102 #[.int .u64 x] w fun e w' => e = .returned (.int .i64 (64 - (Lib.bitLen x.toNat : Int))) ∧ w' = w := Any.bits_LeadingZeros64 YtiipmjdmmoaodaaGreatDoor.lays134 x w h0 h1
def YtiipmjdmmoaodaaGreatDoor.lays29_ren : Go.Shelf.Ren := ⟨fun | 29 => 103 | n => n, fun | 0 => 0 | 3 => 3 | 4 => 4 | 5 => 5 | 22 => 26 | 25 => 118 | 54 => 184 | n => n, fun | 1 => 0 | n => n⟩
theorem YtiipmjdmmoaodaaGreatDoor.lays29 : Go.Proofs.Lays7.n29 Tryz.prog YtiipmjdmmoaodaaGreatDoor.lays29_ren := {
  mixed := by kernel_rfl
  f29 := Tryz.func103.trans (congrArg some (by kernel_rfl))
  t0 := Tryz.underlying0
  a0 := Tryz.isAgg0
  z0 := Tryz.sizeOf0
  v0 := Tryz.zeroValue0
  i0 := by kernel_rfl
  t3 := Tryz.underlying3
  a3 := Tryz.isAgg3
  z3 := Tryz.sizeOf3
  v3 := Tryz.zeroValue3
  i3 := by kernel_rfl
  t4 := Tryz.underlying4
  a4 := Tryz.isAgg4
  z4 := Tryz.sizeOf4
  v4 := Tryz.zeroValue4
  i4 := by kernel_rfl
  t5 := Tryz.underlying5
  a5 := Tryz.isAgg5
  z5 := Tryz.sizeOf5
  v5 := Tryz.zeroValue5
  i5 := by kernel_rfl
  t22 := Tryz.underlying26
  a22 := Tryz.isAgg26
  z22 := Tryz.sizeOf26
  v22 := Tryz.zeroValue26
  i22 := by kernel_rfl
  t25 := Tryz.underlying118
  a25 := Tryz.isAgg118
  z25 := Tryz.sizeOf118
  v25 := Tryz.zeroValue118
  i25 := by kernel_rfl
  t54 := Tryz.underlying184
  a54 := Tryz.isAgg184
  z54 := Tryz.sizeOf184
  g1 := by kernel_rfl }
/-- the library's table lies in its variable -/
def YtiipmjdmmoaodaaGreatDoor.Tab (w : World) : Prop := TabAt 0 Lib.deBruijn64tab w
theorem YtiipmjdmmoaodaaGreatDoor.tz64 (x : Nat) (hx : x < 18446744073709551616) (w : World) (hT : YtiipmjdmmoaodaaGreatDoor.Tab w) :
    Calls Tryz.prog 103 #[.int .u64 x] w fun e w' => e = .returned (.int .i64 (Lib.ctz 64 x)) ∧ w' = w := Any7.bits_TrailingZeros64 YtiipmjdmmoaodaaGreatDoor.lays29 x hx w fun _ => hT
end Go.Proofs
