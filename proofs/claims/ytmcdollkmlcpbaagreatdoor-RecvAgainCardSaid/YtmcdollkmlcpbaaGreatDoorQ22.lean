/- Joined: Xr4, Xr5, Xr8. -/
import Derived.Test.YtmcdollkmlcpbaaGreatDoorQ18
import Derived.Test.YtmcdollkmlcpbaaGreatDoorQ7
import Derived.Test.YtmcdollkmlcpbaaGreatDoorQ4
import Derived.Deep.DeepCutAuto
import Derived.Test.YtmcdollkmlcpbaaGreatDoorQ9
set_option linter.unusedSimpArgs false
set_option linter.unusedVariables false
namespace Go.Proofs.YtmcdollkmlcpbaaGreatDoor
open Go.RowKit
theorem Blk.set4 {w : World} {g : Nat} {t : TypeId} {x y z u : Value} (h : Blk w g t #[x, y, z, u]) (a b c d : Value) : Blk ((((w.setCell ⟨g, 0, none⟩ a).setCell ⟨g, 1, none⟩ b).setCell ⟨g, 2, none⟩ c).setCell ⟨g, 3, none⟩ d) g t #[a, b, c, d] := by simpa using (((h.set 0 a).set 1 b).set 2 c).set 3 d
theorem below_set4 {w0 w : World} {B g : Nat} (h : Below B w0 w) (hg : B ≤ g) (a b c d : Value) : Below B w0 ((((w.setCell ⟨g, 0, none⟩ a).setCell ⟨g, 1, none⟩ b).setCell ⟨g, 2, none⟩ c).setCell ⟨g, 3, none⟩ d) :=
 (((h.setCell hg _).setCell hg _).setCell hg _).setCell hg _
theorem OwnB.far4 {w : World} {base : Nat} {v : Value} {l : List UInt8} (h : OwnB w base v l) {g : Nat} (hg : g < base) (a b c d : Value) : OwnB ((((w.setCell ⟨g, 0, none⟩ a).setCell ⟨g, 1, none⟩ b).setCell ⟨g, 2, none⟩ c).setCell ⟨g, 3, none⟩ d) base v l :=
 (((h.far (h.ne hg) _).far (h.ne hg) _).far (h.ne hg) _).far (h.ne hg) _
theorem Blk.quad {w : World} {g : Nat} {t : TypeId} {x y z u : Value} (h : Blk w g t #[x, y, z, u]) :
  (w.cell? ⟨g, 0, none⟩ = some x ∧ w.cell? ⟨g, 1, none⟩ = some y ∧ w.cell? ⟨g, 2, none⟩ = some z ∧ w.cell? ⟨g, 3, none⟩ = some u) ∧ (w.frozen? ⟨g, 0, none⟩ = false ∧ w.frozen? ⟨g, 1, none⟩ = false ∧ w.frozen? ⟨g, 2, none⟩ = false ∧ w.frozen? ⟨g, 3, none⟩ = false) :=
 ⟨⟨h.cell 0, h.cell 1, h.cell 2, h.cell 3⟩, h.frozen 0, h.frozen 1, h.frozen 2, h.frozen 3⟩
end Go.Proofs.YtmcdollkmlcpbaaGreatDoor
namespace Go.Proofs.YtmcdollkmlcpbaaGreatDoor
open Go.RowKit
theorem xor_int (v p : Nat) (hv : v < 18446744073709551616) (hp : p < 18446744073709551616) : bits .xor .u64 (v : Int) (p : Int) = ((v ^^^ p : Nat) : Int) := by
 have hx : v ^^^ p < 2 ^ 64 := Nat.xor_lt_two_pow hv hp
 have h1 : (BitVec.ofInt 64 (v : Int)).toNat = v := by
  rw [BitVec.ofInt_natCast, BitVec.toNat_ofNat]; exact Nat.mod_eq_of_lt hv
 have h2 : (BitVec.ofInt 64 (p : Int)).toNat = p := by
  rw [BitVec.ofInt_natCast, BitVec.toNat_ofNat]; exact Nat.mod_eq_of_lt hp
 show IntKind.u64.wrap ((BitVec.ofInt 64 (v : Int) ^^^ BitVec.ofInt 64 (p : Int)).toNat : Int) = _
 rw [BitVec.toNat_xor, h1, h2]
 exact wrap_big _ hx
end Go.Proofs.YtmcdollkmlcpbaaGreatDoor
namespace Go.Proofs.YtmcdollkmlcpbaaGreatDoor
open Go.RowKit
theorem mask_val (b s : Nat) (h : b + s ≤ 64) : IntKind.u64.wrap (IntKind.u64.wrap (IntKind.u64.wrap (2 ^ b) - 1) * 2 ^ s) = (((2 ^ b - 1) * 2 ^ s : Nat) : Int) := by
 have hb : 2 ^ b ≤ 2 ^ 64 := Nat.pow_le_pow_right (by decide) (by omega)
 have hb1 : 1 ≤ 2 ^ b := Nat.one_le_two_pow
 have e0 : (2 : Int) ^ b = ((2 ^ b : Nat) : Int) := by rw [Int.natCast_pow]; rfl
 have e1 : IntKind.u64.wrap (IntKind.u64.wrap (2 ^ b) - 1) = ((2 ^ b - 1 : Nat) : Int) := by
  rw [e0]
  simp only [IntKind.wrap_u64]
  omega
 have e2 : (2 : Int) ^ s = ((2 ^ s : Nat) : Int) := by rw [Int.natCast_pow]; rfl
 rw [e1, e2, ← Int.natCast_mul]
 refine wrap_big _ ?_
 have h1 : (2 ^ b - 1) * 2 ^ s < 2 ^ b * 2 ^ s := Nat.mul_lt_mul_of_pos_right (by omega) (Nat.two_pow_pos s)
 rw [← Nat.pow_add] at h1
 exact Nat.lt_of_lt_of_le h1 (Nat.pow_le_pow_right (by decide) h)
theorem mask_bit (b s i : Nat) : ((2 ^ b - 1) * 2 ^ s).testBit i = (decide (s ≤ i) && decide (i < s + b)) := by
 rw [Nat.testBit_mul_two_pow, Nat.testBit_two_pow_sub_one]
 by_cases h : s ≤ i
 ·rw [decide_eq_true h, Bool.true_and, Bool.true_and]
  congr 1
  rw [eq_iff_iff]; omega
 ·rw [decide_eq_false h, Bool.false_and, Bool.false_and]
theorem andNot_zero (D M : Nat) (hD : D < 18446744073709551616) (hM : M < 18446744073709551616) : (bits .andNot .u64 (D : Int) (M : Int) = 0) ↔ ∀ i, D.testBit i = true → M.testBit i = true := by
 have e : bits .andNot .u64 (D : Int) (M : Int) = (((BitVec.ofNat 64 D &&& ~~~ BitVec.ofNat 64 M).toNat : Nat) : Int) := by
  show IntKind.u64.wrap ((BitVec.ofInt 64 (D : Int) &&& ~~~ BitVec.ofInt 64 (M : Int)).toNat : Int) = _
  rw [BitVec.ofInt_natCast, BitVec.ofInt_natCast]
  exact wrap_big _ (BitVec.isLt _)
 rw [e]
 have e2 : (((BitVec.ofNat 64 D &&& ~~~ BitVec.ofNat 64 M).toNat : Nat) : Int) = 0 ↔ BitVec.ofNat 64 D &&& ~~~ BitVec.ofNat 64 M = 0#64 := by
  rw [← BitVec.toNat_inj]
  simp only [BitVec.toNat_ofNat, Nat.zero_mod]
  omega
 rw [e2]
 constructor
 ·intro h i hi
  have hi64 : i < 64 := by
   rcases Nat.lt_or_ge i 64 with h1 | h1
   ·exact h1
   ·rw [Nat.testBit_lt_two_pow (Nat.lt_of_lt_of_le hD (Nat.pow_le_pow_right (show 0 < 2 by decide) h1))] at hi
    cases hi
  have := congrArg (fun x : BitVec 64 => x.getLsbD i) h
  simp only [BitVec.getLsbD_and, BitVec.getLsbD_not, BitVec.getLsbD_ofNat, BitVec.getLsbD_zero, decide_eq_true hi64, Bool.true_and, hi] at this
  simpa using this
 ·intro h
  apply BitVec.eq_of_getLsbD_eq
  intro i hi
  simp only [BitVec.getLsbD_and, BitVec.getLsbD_not, BitVec.getLsbD_ofNat, BitVec.getLsbD_zero, decide_eq_true hi, Bool.true_and]
  cases hd : D.testBit i
  ·simp
  ·rw [h i hd]; simp
theorem holds_mask (l b D : Nat) (hlb : l + b ≤ 64) (hD : D < 18446744073709551616) : (bits .andNot .u64 (D : Int) (IntKind.u64.wrap (IntKind.u64.wrap (IntKind.u64.wrap (2 ^ b) - 1) * 2 ^ (64 - l - b))) == 0) = holdsX l b D := by
 have hM : (2 ^ b - 1) * 2 ^ (64 - l - b) < 18446744073709551616 := by
  have h1 : (2 ^ b - 1) * 2 ^ (64 - l - b) < 2 ^ b * 2 ^ (64 - l - b) := Nat.mul_lt_mul_of_pos_right (by have := Nat.one_le_two_pow (n := b); omega) (Nat.two_pow_pos _)
  rw [← Nat.pow_add] at h1
  exact Nat.lt_of_lt_of_le h1 (Nat.pow_le_pow_right (show 0 < 2 by decide) (show b + (64 - l - b) ≤ 64 by omega))
 rw [mask_val b (64 - l - b) (by omega), Bool.eq_iff_iff, beq_iff_eq, andNot_zero D _ hD hM]
 unfold holdsX
 rw [decide_eq_true_eq]
 generalize hs : 64 - l - b = s
 have e : 64 - l = s + b := by omega
 rw [e]
 constructor
 ·intro h
  constructor
  ·apply Nat.eq_of_testBit_eq
   intro i
   rw [Nat.testBit_mod_two_pow, Nat.zero_testBit]
   by_cases hi : i < s
   ·cases hd : D.testBit i
    ·simp
    ·have := h i hd
     rw [mask_bit, Bool.and_eq_true, decide_eq_true_eq] at this
     omega
   ·simp [hi]
  ·apply Nat.lt_pow_two_of_testBit
   intro i hi
   cases hd : D.testBit i
   ·rfl
   ·have := h i hd
    rw [mask_bit, Bool.and_eq_true, decide_eq_true_eq, decide_eq_true_eq] at this
    omega
 ·rintro ⟨h1, h2⟩ i hi
  rw [mask_bit, Bool.and_eq_true, decide_eq_true_eq, decide_eq_true_eq]
  constructor
  ·rcases Nat.lt_or_ge i s with hlt | hge
   ·exfalso
    have := congrArg (fun x : Nat => x.testBit i) h1
    simp [Nat.testBit_mod_two_pow, hlt, hi] at this
   ·exact hge
  ·rcases Nat.lt_or_ge i (s + b) with hlt | hge
   ·exact hlt
   ·rw [Nat.testBit_lt_two_pow (Nat.lt_of_lt_of_le h2 (Nat.pow_le_pow_right (by decide) hge))] at hi
    cases hi
set_option maxRecDepth 100000 in
set_option maxHeartbeats 1000000 in
theorem holds_any (l b D : Nat) (w : World) (hlb : l + b ≤ 64) (hD : D < 18446744073709551616) :
  Calls Tryz.prog 121 #[.agg #[.int .i64 l, .int .i64 b], .int .u64 D] w fun e w' => e = .returned (.bool (holdsX l b D)) ∧ Below w.heap.size w w' := by
 have hmx : Tryz.prog.follows .mixedOrders = true := by kernel_rfl
 have hB := Blk.new w 176 #[.int .i64 l, .int .i64 b]
 have tB := below_alloc w (.cells #[.int .i64 l, .int .i64 b] 176)
 have l0 : (0 : Int) ≤ l := by omega
 have b0 : (0 : Int) ≤ b := by omega
 go_enter Tryz.func121, Tryz.ntmps121
 go_wp2_with fail
 generalize w.alloc (.cells #[.int .i64 l, .int .i64 b] 176) = W at *
 have qq : ∀ x, (plus W x).cell? ⟨w.heap.size, 0, none⟩ = some (.int .i64 l) ∧ (plus W x).cell? ⟨w.heap.size, 1, none⟩ = some (.int .i64 b) := fun x => (hB.below (plus_below W x) hB.lt : Blk (plus W x) w.heap.size 176 #[.int .i64 l, .int .i64 b]).duo.1
 refine wp_region_fresh [] [5] (fun _ v _ => v = .int .i64 (64 - (l : Int) - b)) hmx (by kernel_rfl) (by kernel_rfl) ?_
 iterate 5 (refine walkF_one none W rfl (by kernel_rfl) ?_; go_big_quiet_step (fail); refine wpQuiet_nil ?_)
 refine walkF_make none W rfl rfl rfl (by kernel_rfl) (fun x => ?_) ?_
 ·refine grow_call ?_ ((behind_any l b (plus W x) (by omega) (by omega)).mono ?_)
  ·simp [execOp, go_sem]
  ·rintro e w4 ⟨rfl, b4⟩
   exact ⟨_, rfl, b4, rfl⟩
 rintro v z rfl gz
 conv => arg 11; simp [Act.put]
 iterate 2 (refine walkF_one none W rfl (by kernel_rfl) ?_; go_big_quiet_step (fail); refine wpQuiet_nil ?_)
 refine walkF_end ?_
 intro w' h0 hE
 clear hE qq
 go_wp2_with fail
 go_ret
 exact ⟨ret_bool (holds_mask l b D hlb hD), tB.trans (Below.mono h0 tB.size)⟩
end Go.Proofs.YtmcdollkmlcpbaaGreatDoor
