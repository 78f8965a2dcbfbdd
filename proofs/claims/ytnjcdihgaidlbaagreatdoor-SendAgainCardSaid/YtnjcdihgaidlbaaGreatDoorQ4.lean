/- Joined: ShelfB. -/
import Derived.Shelf.Small.Bits
import Derived.Shelf.Strconv.Itoa0
import Derived.Shelf.Spec.TrailingZeros
import Derived.Test.YtnjcdihgaidlbaaGreatDoorProg
set_option linter.unusedSimpArgs false
set_option linter.unusedVariables false
namespace Go.Proofs
open Go.Shelf
def YtnjcdihgaidlbaaGreatDoor.lays134_ren : Go.Shelf.Ren := ⟨fun | 134 => 130 | 129 => 98 | n => n, fun | 53 => 41 | 3 => 3 | 4 => 4 | 46 => 161 | 5 => 5 | 9 => 9 | n => n, fun | n => n⟩
theorem YtnjcdihgaidlbaaGreatDoor.lays134 : Go.Proofs.Lays.n134 Tryz.prog YtnjcdihgaidlbaaGreatDoor.lays134_ren := {
 mixed := by kernel_rfl
 f129 := Tryz.func98.trans (congrArg some (by kernel_rfl))
 f134 := Tryz.func130.trans (congrArg some (by kernel_rfl))
 t3 := Tryz.underlying3
 a3 := Tryz.isAgg3
 z3 := Tryz.sizeOf3
 v3 := Tryz.zeroValue3
 t4 := Tryz.underlying4
 a4 := Tryz.isAgg4
 z4 := Tryz.sizeOf4
 v4 := Tryz.zeroValue4
 t5 := Tryz.underlying5
 a5 := Tryz.isAgg5
 z5 := Tryz.sizeOf5
 v5 := Tryz.zeroValue5
 t9 := Tryz.underlying9
 a9 := Tryz.isAgg9
 z9 := Tryz.sizeOf9
 v9 := Tryz.zeroValue9
 t46 := Tryz.underlying161
 a46 := Tryz.isAgg161
 z46 := Tryz.sizeOf161
 v46 := Tryz.zeroValue161
 t53 := Tryz.underlying41
 a53 := Tryz.isAgg41
 z53 := Tryz.sizeOf41
 v53 := Tryz.zeroValue41 }
theorem YtnjcdihgaidlbaaGreatDoor.lz64 (x : Int) (w : World) (h0 : 0 ≤ x) (h1 : x ≤ 18446744073709551615) :
  Calls Tryz.prog 130 #[.int .u64 x] w fun e w' => e = .returned (.int .i64 (64 - (Lib.bitLen x.toNat : Int))) ∧ w' = w := Any.bits_LeadingZeros64 YtnjcdihgaidlbaaGreatDoor.lays134 x w h0 h1
def YtnjcdihgaidlbaaGreatDoor.lays29_ren : Go.Shelf.Ren := ⟨fun | 29 => 131 | n => n, fun | 0 => 0 | 3 => 3 | 4 => 4 | 5 => 5 | 22 => 41 | 25 => 161 | 54 => 223 | n => n, fun | 1 => 0 | n => n⟩
theorem YtnjcdihgaidlbaaGreatDoor.lays29 : Go.Proofs.Lays7.n29 Tryz.prog YtnjcdihgaidlbaaGreatDoor.lays29_ren := {
 mixed := by kernel_rfl
 f29 := Tryz.func131.trans (congrArg some (by kernel_rfl))
 t0 := Tryz.underlying0
 a0 := Tryz.isAgg0
 z0 := Tryz.sizeOf0
 v0 := Tryz.zeroValue0
 i0 := by kernel_rfl
 t3 := Tryz.underlying3
 a3 := Tryz.isAgg3
 z3 := Tryz.sizeOf3
 v3 := Tryz.zeroValue3
 i3 := by kernel_rfl
 t4 := Tryz.underlying4
 a4 := Tryz.isAgg4
 z4 := Tryz.sizeOf4
 v4 := Tryz.zeroValue4
 i4 := by kernel_rfl
 t5 := Tryz.underlying5
 a5 := Tryz.isAgg5
 z5 := Tryz.sizeOf5
 v5 := Tryz.zeroValue5
 i5 := by kernel_rfl
 t22 := Tryz.underlying41
 a22 := Tryz.isAgg41
 z22 := Tryz.sizeOf41
 v22 := Tryz.zeroValue41
 i22 := by kernel_rfl
 t25 := Tryz.underlying161
 a25 := Tryz.isAgg161
 z25 := Tryz.sizeOf161
 v25 := Tryz.zeroValue161
 i25 := by kernel_rfl
 t54 := Tryz.underlying223
 a54 := Tryz.isAgg223
 z54 := Tryz.sizeOf223
 g1 := by kernel_rfl }
def YtnjcdihgaidlbaaGreatDoor.Tab (w : World) : Prop := TabAt 0 Lib.deBruijn64tab w
theorem YtnjcdihgaidlbaaGreatDoor.tz64 (x : Nat) (hx : x < 18446744073709551616) (w : World) (hT : YtnjcdihgaidlbaaGreatDoor.Tab w) :
  Calls Tryz.prog 131 #[.int .u64 x] w fun e w' => e = .returned (.int .i64 (Lib.ctz 64 x)) ∧ w' = w := Any7.bits_TrailingZeros64 YtnjcdihgaidlbaaGreatDoor.lays29 x hx w fun _ => hT
end Go.Proofs
