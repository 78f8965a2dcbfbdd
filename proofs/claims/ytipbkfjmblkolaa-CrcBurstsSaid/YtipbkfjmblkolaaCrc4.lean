/- The chapter's example; CrcSums, CrcParts, CrcTurns. -/
import Derived.Test.YtipbkfjmblkolaaCrc3
import Derived.Lib.SlBytesConst
import Derived.Lib.SmallJoins
namespace Go.Proofs.Ytipbkfjmblkolaa
open Go.RowKit

def exL : List UInt8 := [49, 50, 51, 52, 53, 54, 55, 56, 57]
theorem exL_bs (w : World) (g : Nat) (T : TypeId) (hg : g < w.heap.size) : Bsf (w.alloc (.cells #[.int .u8 49, .int .u8 50, .int .u8 51, .int .u8 52, .int .u8 53, .int .u8 54, .int .u8 55, .int .u8 56, .int .u8 57] T (9, 10))) g (some ⟨w.heap.size, 0, none⟩) exL := fun i b hi => by
  refine ⟨_, 0, rfl, by omega, ?_⟩
  rw [Nat.zero_add]
  have hlt : i < 9 := by
    have := (List.getElem?_eq_some_iff.1 hi).1
    simpa [exL] using this
  have key : ∀ i, i < 9 → (#[.int .u8 49, .int .u8 50, .int .u8 51, .int .u8 52, .int .u8 53, .int .u8 54, .int .u8 55, .int .u8 56, .int .u8 57] : Array Value)[i]? = (exL[i]?).map bv := by
    intro i hi
    match i, hi with
    | 0, _ => rfl
    | 1, _ => rfl
    | 2, _ => rfl
    | 3, _ => rfl
    | 4, _ => rfl
    | 5, _ => rfl
    | 6, _ => rfl
    | 7, _ => rfl
    | 8, _ => rfl
    | n + 9, h => omega
  rw [World.cell?_alloc_mark, key i hlt, hi]; rfl

set_option maxRecDepth 100000 in
set_option maxHeartbeats 1000000 in
theorem crcKnown_any (w : World) : Calls Try.prog 13 #[] w fun e w' => e = .returned (.bool true) ∧ Below w.heap.size w w' := by
  have kc := fun (w : World) (C : Array Value) (n c : Nat) => Lib.run_convert_bytes_const (P := Try.prog) w 22 5 C n c Try.underlying22 Try.underlying5
  go_enter Try.func13, Try.ntmps13
  go_wp2_with fail
  refine (crcNew_any _).mono ?_
  rintro e w1 ⟨rfl, hF, hb1⟩
  have hg := hF.lt
  go_wp2_with fail
  refine (made_any _ 0 _ hF.made (.inl rfl)).mono ?_
  rintro e w2 ⟨rfl, rfl⟩
  have L1 := exL_bs w1 w.heap.size 5 hg
  have F1 : TabF _ w.heap.size := Blk.alloc (Blk.alloc hF (.cells #[.int .u8 49, .int .u8 50, .int .u8 51, .int .u8 52, .int .u8 53, .int .u8 54, .int .u8 55, .int .u8 56, .int .u8 57] 5 (9, 10))) (.cells #[.slice (some ⟨w1.heap.size, 0, none⟩) exL.length 9] 22)
  have L2 := ls_one 9 22 L1 (by simp; omega)
  have hb2 := (hb1.alloc (by have := hb1.size; omega) (.cells #[.int .u8 49, .int .u8 50, .int .u8 51, .int .u8 52, .int .u8 53, .int .u8 54, .int .u8 55, .int .u8 56, .int .u8 57] 5 (9, 10))).alloc (by have := hb1.size; simp; omega) (.cells #[.slice (some ⟨w1.heap.size, 0, none⟩) exL.length 9] 22)
  rw [World.size_alloc] at L2
  go_wp2_with fail
  refine (crcSum_any w.heap.size _ _ [exL] _ (.inl F1) L2 (by simp) (by simp [exL])).mono ?_
  rintro e w3 ⟨x, HX, rfl, hM, hT⟩
  obtain rfl : x = 3808858755 := HX.out.trans (by decide +kernel)
  have t3 := hT.below hb2 (by have := hb1.size; simp; omega) (Nat.le_refl _)
  clear L1 F1 L2 hb2 hb1 hF hT HX
  go_wp2_with fail
  refine (made_any _ 1 _ hM.made (.inr rfl)).mono ?_
  rintro e w4 ⟨rfl, rfl⟩
  go_wp2_with fail
  refine (crcSum_any w.heap.size none 0 [] _ (.inr hM) (ls_nil _ _ _) (by simp) (by simp)).mono ?_
  rintro e w5 ⟨y, HY, rfl, hM5, hT5⟩
  obtain rfl : y = 0 := HY.out.trans (by decide +kernel)
  have t5 := hT5.below t3 t3.size (Nat.le_refl _)
  go_wp2_with fail
  go_ret
  exact ⟨rfl, t5⟩

end Go.Proofs.Ytipbkfjmblkolaa
