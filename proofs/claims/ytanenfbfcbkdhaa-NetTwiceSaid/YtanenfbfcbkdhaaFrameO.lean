/- Arguments of layer 19's statements: calls on a network, each with bytes. -/
import Derived.Test.YtanenfbfcbkdhaaFrameY
import Derived.Test.YtanenfbfcbkdhaaFrameS
set_option linter.unusedSimpArgs false
set_option linter.unusedVariables false
namespace Go.Proofs.Ytanenfbfcbkdhaa
open Go.Joins Go.ChangeShapes Go.WideShapes Go.RowKit Go.Deep
set_option maxRecDepth 100000

/-- a call: kind, side, where its bytes lie, its bytes, index, place, byte -/
structure OpN where
  kd : Nat
  sd : Nat
  A : Option Addr
  c : Nat
  b : List UInt8
  i : Int
  at_ : Int
  x : Nat
def encOp (o : OpN) : List Value := [.int .u8 (o.kd : Nat), .int .u8 (o.sd : Nat), .slice o.A o.b.length o.c, .int .i64 o.i, .int .i64 o.at_, .int .u8 (o.x : Nat)]
def OpN.ok (w : World) (o : OpN) : Prop := o.kd < 256 ∧ o.sd < 256 ∧ Bs w o.A o.b ∧ o.b.length ≤ maxLen ∧ (-9223372036854775808 ≤ o.i ∧ o.i ≤ 9223372036854775807) ∧ (-9223372036854775808 ≤ o.at_ ∧ o.at_ ≤ 9223372036854775807) ∧ o.x < 256
section
variable {H : Type} {ench : TypeId × Value → H} {W : World}
theorem Try.oCellsU8 : Try.prog.cellsOf 5 = 1 := by kernel_rfl
theorem Try.oCellsI : Try.prog.cellsOf 3 = 1 := by kernel_rfl
theorem Try.oCellsL : Try.prog.cellsOf 22 = 1 := by kernel_rfl
theorem Try.oCellsO : Try.prog.cellsOf 31 = 6 := by kernel_rfl
theorem otrod_u8 {base n : Nat} {spare : Nat → Bool} {held : Bool} {c : Value} {y : DataW H × List MemPlace} (h : DataW.trod ench Try.prog W base spare held n 5 [c] = some y) : ∃ x : Nat, c = .int .u8 x ∧ x < 256 := by
  obtain ⟨x, e, _, wx⟩ := DataW.trod_int Try.underlying5 h
  have hb := bounds_u8 wx
  simp at e
  exact ⟨x.toNat, by rw [e, Int.toNat_of_nonneg hb.1], by omega⟩
theorem otrod_int {base n : Nat} {spare : Nat → Bool} {held : Bool} {c : Value} {y : DataW H × List MemPlace} (h : DataW.trod ench Try.prog W base spare held n 3 [c] = some y) : ∃ x : Int, c = .int .i64 x ∧ (-9223372036854775808 ≤ x ∧ x ≤ 9223372036854775807) := by
  obtain ⟨x, e, _, wx⟩ := DataW.trod_int Try.underlying3 h
  simp at e
  exact ⟨x, e, bounds_i64 wx⟩
/-- a slice of calls -/
theorem open_opsN {b0 : Nat} {v : Value} {d : DataW H} {p : List MemPlace} (hv : Value.okWide Try.prog W .any b0 23 v) (h : DataW.Trod ench Try.prog W 0 (fun _ => true) true 23 v d p) :
    ∃ (V : Option Addr) (c : Nat) (l : List OpN), v = .slice V l.length c ∧ Rw W encOp 6 V l ∧ l.length ≤ c ∧ l.length ≤ maxLen ∧ ∀ o ∈ l, o.ok W :=
  open_rows (enc := encOp) (sz := 6) (ok := OpN.ok W) Try.underlying23 Try.oCellsO (by decide) (fun _ => rfl) (fun fuel cs x hl ht => by
    match cs, hl with
    | [c0, c1, c2, c3, c4, c5], _ =>
      obtain ⟨xs, m, _, _, _, hlen, hg⟩ := DataW.trod_struct Try.underlying31 ht
      obtain ⟨y0, h0⟩ := trodR hlen hg 0 rfl Try.oCellsU8
      obtain ⟨y1, h1⟩ := trodR hlen hg 1 rfl Try.oCellsU8
      obtain ⟨y2, h2⟩ := trodR hlen hg 2 rfl Try.oCellsL
      obtain ⟨y3, h3⟩ := trodR hlen hg 3 rfl Try.oCellsI
      obtain ⟨y4, h4⟩ := trodR hlen hg 4 rfl Try.oCellsI
      obtain ⟨y5, h5⟩ := trodR hlen hg 5 rfl Try.oCellsU8
      obtain ⟨kd, rfl, k0⟩ := otrod_u8 h0
      obtain ⟨sd, rfl, k1⟩ := otrod_u8 h1
      obtain ⟨A, c, b, rfl, k2, k3⟩ := open_bytes (b0 := 0) h2
      obtain ⟨i, rfl, k4⟩ := otrod_int h3
      obtain ⟨at_, rfl, k5⟩ := otrod_int h4
      obtain ⟨x, rfl, k6⟩ := otrod_u8 h5
      exact ⟨⟨kd, sd, A, c, b, i, at_, x⟩, rfl, k0, k1, k3, k2, k4, k5, k6⟩) hv h
end

end Go.Proofs.Ytanenfbfcbkdhaa
