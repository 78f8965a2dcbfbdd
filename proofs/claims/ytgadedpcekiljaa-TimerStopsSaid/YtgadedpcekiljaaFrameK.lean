/- Arguments of layer 14's statements: calls. -/
import Derived.Test.YtgadedpcekiljaaFrameS
set_option linter.unusedSimpArgs false
set_option linter.unusedVariables false
namespace Go.Proofs.Ytgadedpcekiljaa
open Go.Joins Go.ChangeShapes Go.WideShapes Go.RowKit Go.Deep
set_option maxRecDepth 100000

/-- a call on timers -/
structure OT where
  kd : Nat
  se : Nat
  now : Nat
def encO14 (o : OT) : List Value := [.int .u8 ((o.kd : Nat) : Int), .int .u32 ((o.se : Nat) : Int), .int .u64 ((o.now : Nat) : Int)]
def OkT (l : List OT) : Prop := ∀ o ∈ l, o.kd < 256 ∧ o.se < 4294967296 ∧ o.now < 18446744073709551616
section
variable {H : Type} {ench : TypeId × Value → H} {W : World}
theorem Try.cellsU8 : Try.prog.cellsOf 5 = 1 := by kernel_rfl
theorem Try.cellsU32 : Try.prog.cellsOf 24 = 1 := by kernel_rfl
theorem Try.cellsU64 : Try.prog.cellsOf 31 = 1 := by kernel_rfl
theorem Try.cellsOp14 : Try.prog.cellsOf 33 = 3 := by kernel_rfl
theorem open_ops14 {b0 : Nat} {v : Value} {d : DataW H} {p : List MemPlace} (hv : Value.okWide Try.prog W .any b0 23 v) (h : DataW.Trod ench Try.prog W 0 (fun _ => true) true 23 v d p) :
    ∃ (V : Option Addr) (c : Nat) (l : List OT), v = .slice V l.length c ∧ Rw W encO14 3 V l ∧ l.length ≤ maxLen ∧ OkT l := by
  obtain ⟨V, c, l, h1, h2, -, h4, h5⟩ := open_rows (enc := encO14) (sz := 3) (ok := fun o => o.kd < 256 ∧ o.se < 4294967296 ∧ o.now < 18446744073709551616) Try.underlying23 Try.cellsOp14 (by decide) (fun _ => rfl) (fun fuel cs x hl ht => by
    match cs, hl with
    | [c0, c1, c2], _ =>
      obtain ⟨xs, m, _, _, _, hlen, hg⟩ := DataW.trod_struct Try.underlying33 ht
      obtain ⟨y0, h0⟩ := trodR hlen hg 0 rfl Try.cellsU8
      obtain ⟨y1, h1⟩ := trodR hlen hg 1 rfl Try.cellsU32
      obtain ⟨y2, h2⟩ := trodR hlen hg 2 rfl Try.cellsU64
      obtain ⟨a0, rfl, b0⟩ := trod_nat (m := 255) Try.underlying5 (fun x hx => by have := bounds_u8 hx; omega) h0
      obtain ⟨a1, rfl, b1⟩ := trod_nat (m := 4294967295) Try.underlying24 (fun x hx => by have := bounds_u32 hx; omega) h1
      obtain ⟨a2, rfl, b2⟩ := trod_nat (m := 18446744073709551615) Try.underlying31 (fun x hx => by have := bounds_u64 hx; omega) h2
      exact ⟨⟨a0, a1, a2⟩, rfl, Nat.lt_of_le_of_lt b0 (by decide), Nat.lt_of_le_of_lt b1 (by decide), Nat.lt_of_le_of_lt b2 (by decide)⟩) hv h
  exact ⟨V, c, l, h1, h2, h4, h5⟩
end

end Go.Proofs.Ytgadedpcekiljaa
