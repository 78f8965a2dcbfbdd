/- Joined: ShelfB. -/
import Derived.Shelf.Small.Bits
import Derived.Shelf.Strconv.Itoa0
import Derived.Shelf.Spec.TrailingZeros
import Derived.Test.YtiliineopplinaaGreatDoorProg
set_option linter.unusedSimpArgs false
set_option linter.unusedVariables false
namespace Go.Proofs
open Go.Shelf
def YtiliineopplinaaGreatDoor.lays134_ren : Go.Shelf.Ren := ⟨fun | 134 => 110 | 129 => 80 | n => n, fun | 53 => 38 | 3 => 3 | 4 => 4 | 46 => 142 | 5 => 5 | 9 => 9 | n => n, fun | n => n⟩
theorem YtiliineopplinaaGreatDoor.lays134 : Go.Proofs.Lays.n134 Tryz.prog YtiliineopplinaaGreatDoor.lays134_ren := {
 mixed := by kernel_rfl
 f129 := Tryz.func80.trans (congrArg some (by kernel_rfl))
 f134 := Tryz.func110.trans (congrArg some (by kernel_rfl))
 t3 := Tryz.underlying3
 a3 := Tryz.isAgg3
 z3 := Tryz.sizeOf3
 v3 := Tryz.zeroValue3
 t4 := Tryz.underlying4
 a4 := Tryz.isAgg4
 z4 := Tryz.sizeOf4
 v4 := Tryz.zeroValue4
 t5 := Tryz.underlying5
 a5 := Tryz.isAgg5
 z5 := Tryz.sizeOf5
 v5 := Tryz.zeroValue5
 t9 := Tryz.underlying9
 a9 := Tryz.isAgg9
 z9 := Tryz.sizeOf9
 v9 := Tryz.zeroValue9
 t46 := Tryz.underlying142
 a46 := Tryz.isAgg142
 z46 := Tryz.sizeOf142
 v46 := Tryz.zeroValue142
 t53 := Tryz.underlying38
 a53 := Tryz.isAgg38
 z53 := Tryz.sizeOf38
 v53 := Tryz.zeroValue38 }
theorem YtiliineopplinaaGreatDoor.lz64 (x : Int) (w : World) (h0 : 0 ≤ x) (h1 : x ≤ 18446744073709551615) :
  Calls Tryz.prog 110 #[.int .u64 x] w fun e w' => e = .returned (.int .i64 (64 - (Lib.bitLen x.toNat : Int))) ∧ w' = w := Any.bits_LeadingZeros64 YtiliineopplinaaGreatDoor.lays134 x w h0 h1
def YtiliineopplinaaGreatDoor.lays29_ren : Go.Shelf.Ren := ⟨fun | 29 => 111 | n => n, fun | 0 => 0 | 3 => 3 | 4 => 4 | 5 => 5 | 22 => 38 | 25 => 142 | 54 => 205 | n => n, fun | 1 => 0 | n => n⟩
theorem YtiliineopplinaaGreatDoor.lays29 : Go.Proofs.Lays7.n29 Tryz.prog YtiliineopplinaaGreatDoor.lays29_ren := {
 mixed := by kernel_rfl
 f29 := Tryz.func111.trans (congrArg some (by kernel_rfl))
 t0 := Tryz.underlying0
 a0 := Tryz.isAgg0
 z0 := Tryz.sizeOf0
 v0 := Tryz.zeroValue0
 i0 := by kernel_rfl
 t3 := Tryz.underlying3
 a3 := Tryz.isAgg3
 z3 := Tryz.sizeOf3
 v3 := Tryz.zeroValue3
 i3 := by kernel_rfl
 t4 := Tryz.underlying4
 a4 := Tryz.isAgg4
 z4 := Tryz.sizeOf4
 v4 := Tryz.zeroValue4
 i4 := by kernel_rfl
 t5 := Tryz.underlying5
 a5 := Tryz.isAgg5
 z5 := Tryz.sizeOf5
 v5 := Tryz.zeroValue5
 i5 := by kernel_rfl
 t22 := Tryz.underlying38
 a22 := Tryz.isAgg38
 z22 := Tryz.sizeOf38
 v22 := Tryz.zeroValue38
 i22 := by kernel_rfl
 t25 := Tryz.underlying142
 a25 := Tryz.isAgg142
 z25 := Tryz.sizeOf142
 v25 := Tryz.zeroValue142
 i25 := by kernel_rfl
 t54 := Tryz.underlying205
 a54 := Tryz.isAgg205
 z54 := Tryz.sizeOf205
 g1 := by kernel_rfl }
def YtiliineopplinaaGreatDoor.Tab (w : World) : Prop := TabAt 0 Lib.deBruijn64tab w
theorem YtiliineopplinaaGreatDoor.tz64 (x : Nat) (hx : x < 18446744073709551616) (w : World) (hT : YtiliineopplinaaGreatDoor.Tab w) :
  Calls Tryz.prog 111 #[.int .u64 x] w fun e w' => e = .returned (.int .i64 (Lib.ctz 64 x)) ∧ w' = w := Any7.bits_TrailingZeros64 YtiliineopplinaaGreatDoor.lays29 x hx w fun _ => hT
end Go.Proofs
