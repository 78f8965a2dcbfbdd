/- Joined: Xr4, Xr5, Xr8. -/
import Derived.Test.YtgnppnjhecfjeaaDoorQ13
import Derived.Deep.DeepCutAuto
import Derived.Test.YtgnppnjhecfjeaaDoorQ7
set_option linter.unusedSimpArgs false
set_option linter.unusedVariables false
/- The document's written of layer 3: first values, and values that are the same again. -/
namespace Go.Proofs.YtgnppnjhecfjeaaDoor
open Go.RowKit

theorem Blk.set4 {w : World} {g : Nat} {t : TypeId} {x y z u : Value} (h : Blk w g t #[x, y, z, u]) (a b c d : Value) : Blk ((((w.setCell ⟨g, 0, none⟩ a).setCell ⟨g, 1, none⟩ b).setCell ⟨g, 2, none⟩ c).setCell ⟨g, 3, none⟩ d) g t #[a, b, c, d] := by simpa using (((h.set 0 a).set 1 b).set 2 c).set 3 d
theorem below_set4 {w0 w : World} {B g : Nat} (h : Below B w0 w) (hg : B ≤ g) (a b c d : Value) : Below B w0 ((((w.setCell ⟨g, 0, none⟩ a).setCell ⟨g, 1, none⟩ b).setCell ⟨g, 2, none⟩ c).setCell ⟨g, 3, none⟩ d) :=
  (((h.setCell hg _).setCell hg _).setCell hg _).setCell hg _
theorem OwnB.far4 {w : World} {base : Nat} {v : Value} {l : List UInt8} (h : OwnB w base v l) {g : Nat} (hg : g < base) (a b c d : Value) : OwnB ((((w.setCell ⟨g, 0, none⟩ a).setCell ⟨g, 1, none⟩ b).setCell ⟨g, 2, none⟩ c).setCell ⟨g, 3, none⟩ d) base v l :=
  (((h.far (h.ne hg) _).far (h.ne hg) _).far (h.ne hg) _).far (h.ne hg) _
theorem Blk.quad {w : World} {g : Nat} {t : TypeId} {x y z u : Value} (h : Blk w g t #[x, y, z, u]) :
    (w.cell? ⟨g, 0, none⟩ = some x ∧ w.cell? ⟨g, 1, none⟩ = some y ∧ w.cell? ⟨g, 2, none⟩ = some z ∧ w.cell? ⟨g, 3, none⟩ = some u) ∧ (w.frozen? ⟨g, 0, none⟩ = false ∧ w.frozen? ⟨g, 1, none⟩ = false ∧ w.frozen? ⟨g, 2, none⟩ = false ∧ w.frozen? ⟨g, 3, none⟩ = false) :=
  ⟨⟨h.cell 0, h.cell 1, h.cell 2, h.cell 3⟩, h.frozen 0, h.frozen 1, h.frozen 2, h.frozen 3⟩

/-- the answer of written: a list of its own, and what is known then -/
def WrOut (s : XV) (v : Nat) (base : Nat) (e : Ending) (w : World) : Prop :=
  ∃ A n c, e = .returned (.tuple #[.slice A n c, .agg #[.bool (encX s v).2.has, .int .u64 (encX s v).2.prev, .int .u8 (encX s v).2.lead, .int .u8 (encX s v).2.width]]) ∧ n = (encX s v).1.length ∧ OwnB w base (.slice A n c) (u8s (encX s v).1)

set_option maxRecDepth 100000 in
set_option maxHeartbeats 2000000 in
theorem written_first (p l b v : Nat) (w : World) (hv : v < 18446744073709551616) :
    Calls Tryd.prog 43 #[.agg #[.bool false, .int .u64 p, .int .u8 l, .int .u8 b], .int .u64 v] w fun e w' => WrOut ⟨false, p, l, b⟩ v w.heap.size e w' ∧ Below w.heap.size w w' := by
  have hB : Blk ((w.alloc (.cells #[.bool false, .int .u64 p, .int .u8 l, .int .u8 b] 27)).alloc (.cells #[.bool false, .int .u64 0, .int .u8 0, .int .u8 0] 27)) (w.heap.size + 1) 27 #[.bool false, .int .u64 0, .int .u8 0, .int .u8 0] := by
    have := Blk.new (w.alloc (.cells #[.bool false, .int .u64 p, .int .u8 l, .int .u8 b] 27)) 27 #[.bool false, .int .u64 0, .int .u8 0, .int .u8 0]
    rwa [World.size_alloc] at this
  go_enter Tryd.func43, Tryd.ntmps43
  go_wp2_with (go_at_call 65; refine (rput_any (w.heap.size + 2) _ [] v 64 _ _ (Below.refl _ _) hv (by omega) (OwnB.nil _ _) (by simp) (by simp)).mono ?_; rintro e w1 ⟨A1, n1, c1, rfl, hn, o1, t1, z1⟩; have HB1 := Lib.hid (hB.below t1 (by omega)); obtain ⟨⟨r0, r1, r2, r3⟩, f0, f1, f2, f3⟩ := HB1.out.quad; have Hn := Lib.hid hn; clear hn hB)
  have hF := HB1.out.set4 (.bool true) (.int .u64 v) (.int .u8 0) (.int .u8 0)
  obtain ⟨⟨s0, s1, s2, s3⟩, -⟩ := hF.quad
  refine bodyPost_ret (v := .tuple #[.slice A1 n1 c1, .agg #[.bool true, .int .u64 v, .int .u8 0, .int .u8 0]]) (by simp [results, Tryd.results43, go_sem, s0, s1, s2, s3]) rfl ?_
  refine ⟨⟨A1, n1, c1, rfl, Hn.out, (o1.far4 (by omega) _ _ _ _).mono (by omega)⟩, ?_⟩
  exact below_set4 ((below_alloc2 w _ _).trans (t1.mono (by omega))) (by omega) _ _ _ _

end Go.Proofs.YtgnppnjhecfjeaaDoor

/- The document's written of layer 3: the same value again. -/
namespace Go.Proofs.YtgnppnjhecfjeaaDoor
open Go.RowKit

theorem xor_int (v p : Nat) (hv : v < 18446744073709551616) (hp : p < 18446744073709551616) : bits .xor .u64 (v : Int) (p : Int) = ((v ^^^ p : Nat) : Int) := by
  have hx : v ^^^ p < 2 ^ 64 := Nat.xor_lt_two_pow hv hp
  have h1 : (BitVec.ofInt 64 (v : Int)).toNat = v := by
    rw [BitVec.ofInt_natCast, BitVec.toNat_ofNat]; exact Nat.mod_eq_of_lt hv
  have h2 : (BitVec.ofInt 64 (p : Int)).toNat = p := by
    rw [BitVec.ofInt_natCast, BitVec.toNat_ofNat]; exact Nat.mod_eq_of_lt hp
  show IntKind.u64.wrap ((BitVec.ofInt 64 (v : Int) ^^^ BitVec.ofInt 64 (p : Int)).toNat : Int) = _
  rw [BitVec.toNat_xor, h1, h2]
  exact wrap_big _ hx

set_option maxRecDepth 100000 in
set_option maxHeartbeats 2000000 in
theorem written_same (l b v : Nat) (w : World) (hv : v < 18446744073709551616) :
    Calls Tryd.prog 43 #[.agg #[.bool true, .int .u64 v, .int .u8 l, .int .u8 b], .int .u64 v] w fun e w' => WrOut ⟨true, v, l, b⟩ v w.heap.size e w' ∧ Below w.heap.size w w' := by
  have hmx : Tryd.prog.follows .mixedOrders = true := by kernel_rfl
  have hx : bits .xor .u64 (v : Int) (v : Int) = 0 := by rw [xor_int v v hv hv, Nat.xor_self]; rfl
  have hB0 : Blk ((((w.alloc (.cells #[.bool true, .int .u64 v, .int .u8 l, .int .u8 b] 27)).alloc (.cells #[.bool false, .int .u64 0, .int .u8 0, .int .u8 0] 27)))) w.heap.size 27 #[.bool true, .int .u64 v, .int .u8 l, .int .u8 b] := (Blk.new w _ _).alloc _
  have hB1 : Blk ((w.alloc (.cells #[.bool true, .int .u64 v, .int .u8 l, .int .u8 b] 27)).alloc (.cells #[.bool false, .int .u64 0, .int .u8 0, .int .u8 0] 27)) (w.heap.size + 1) 27 #[.bool false, .int .u64 0, .int .u8 0, .int .u8 0] := by
    have := Blk.new (w.alloc (.cells #[.bool true, .int .u64 v, .int .u8 l, .int .u8 b] 27)) 27 #[.bool false, .int .u64 0, .int .u8 0, .int .u8 0]
    rwa [World.size_alloc] at this
  have tA := below_alloc2 w (.cells #[.bool true, .int .u64 v, .int .u8 l, .int .u8 b] 27) (.cells #[.bool false, .int .u64 0, .int .u8 0, .int .u8 0] 27)
  have zA : ((w.alloc (.cells #[.bool true, .int .u64 v, .int .u8 l, .int .u8 b] 27)).alloc (.cells #[.bool false, .int .u64 0, .int .u8 0, .int .u8 0] 27)).heap.size = w.heap.size + 2 := by simp
  have HB1 := Lib.hid hB1
  have HB0 := Lib.hid hB0
  have HtA := Lib.hid tA
  have HzA := Lib.hid zA
  clear hB0 hB1 tA zA
  go_enter Tryd.func43, Tryd.ntmps43
  go_wp2_with fail
  generalize (w.alloc (.cells #[.bool true, .int .u64 v, .int .u8 l, .int .u8 b] 27)).alloc (.cells #[.bool false, .int .u64 0, .int .u8 0, .int .u8 0] 27) = W at *
  have q : ∀ x, (plus W x).cell? ⟨w.heap.size, 0, none⟩ = some (.bool true) ∧ (plus W x).cell? ⟨w.heap.size, 1, none⟩ = some (.int .u64 v) ∧ (plus W x).cell? ⟨w.heap.size, 2, none⟩ = some (.int .u8 l) ∧ (plus W x).cell? ⟨w.heap.size, 3, none⟩ = some (.int .u8 b) := fun x =>
    ((HB0.out.below (plus_below W x) HB0.out.lt : Blk (plus W x) w.heap.size 27 #[.bool true, .int .u64 v, .int .u8 l, .int .u8 b])).quad.1
  refine wp_region_fresh_tail 5 [none, none, some 1] [1, 2] (fun k V z => if k = 1 then ∃ g, V = .slice (some ⟨g, 0, none⟩) 1 1 ∧ Bs z (some ⟨g, 0, none⟩) [0] else ∃ A' c', V = .slice A' 1 c' ∧ OwnB z (w.heap.size + 2) V [0]) hmx (by kernel_rfl) (by kernel_rfl) ?_
  simp only [List.take_succ_cons, List.take_zero, List.drop_succ_cons, List.drop_zero]
  refine walkF_one none W rfl (by kernel_rfl) ?_
  go_big_quiet_step (fail)
  refine wpQuiet_nil ?_
  refine walkF_make none W rfl rfl rfl (by kernel_rfl) (fun x => grow_bytes _ [0] 5 ?_ ?_) ?_
  · simp [execOp, go_sem]
    rfl
  · intro g z hb
    exact ⟨g, rfl, hb.bs⟩
  rintro V1 z1 ⟨g, rfl, hb1⟩ g1
  conv => arg 11; simp [Act.put]
  have zz : ∀ x, w.heap.size + 2 ≤ (plus z1 x).heap.size := fun x => by
    have h1 := HzA.out
    have h2 := Below.size g1
    have h3 := (plus_below z1 x).size
    omega
  refine walkF_make (some 1) z1 rfl rfl rfl (by kernel_rfl) (fun x => grow_appNil (.tmp 27) (.tmp 28) rfl rfl (some ⟨g, 0, none⟩) 1 1 [0] rfl rfl (hb1.below (plus_below z1 x)) (by simp) (w.heap.size + 2) (zz x)) ?_
  rintro V2 z2 ⟨A2, c2, rfl, o2⟩ g2
  conv => arg 11; simp [Act.put]
  iterate 2 (refine walkF_one none W rfl (by kernel_rfl) ?_; go_big_quiet_step (fail); refine wpQuiet_nil ?_)
  refine walkF_end ?_
  intro w' h0 hE
  have hE2 : Gr z2 w' := hE 2
  have o3 := o2.below hE2
  have HB := Lib.hid (HB1.out.below h0 HB1.out.lt : Blk w' (w.heap.size + 1) 27 #[.bool false, .int .u64 0, .int .u8 0, .int .u8 0])
  obtain ⟨⟨r0, r1, r2, r3⟩, f0, f1, f2, f3⟩ := HB.out.quad
  clear hE hE2 q zz o2 hb1
  go_wp2_with fail
  have hF := HB.out.set4 (.bool true) (.int .u64 v) (.int .u8 l) (.int .u8 b)
  obtain ⟨⟨s0, s1, s2, s3⟩, -⟩ := hF.quad
  have hW : WrOut ⟨true, v, l, b⟩ v w.heap.size (.returned (.tuple #[.slice A2 1 c2, .agg #[.bool true, .int .u64 v, .int .u8 l, .int .u8 b]])) ((((w'.setCell ⟨w.heap.size + 1, 0, none⟩ (.bool true)).setCell ⟨w.heap.size + 1, 1, none⟩ (.int .u64 v)).setCell ⟨w.heap.size + 1, 2, none⟩ (.int .u8 l)).setCell ⟨w.heap.size + 1, 3, none⟩ (.int .u8 b)) := by
    have he : encX ⟨true, v, l, b⟩ v = ([false], ⟨true, v, l, b⟩) := by
      unfold encX
      rw [if_neg (by simp), if_pos (Nat.xor_self _)]
    unfold WrOut
    rw [he]
    exact ⟨A2, 1, c2, rfl, rfl, (o3.far4 (by omega) _ _ _ _).mono (by omega)⟩
  refine bodyPost_ret (v := .tuple #[.slice A2 1 c2, .agg #[.bool true, .int .u64 v, .int .u8 l, .int .u8 b]]) (by simp [results, Tryd.results43, go_sem, s0, s1, s2, s3]) rfl ⟨hW, ?_⟩
  exact below_set4 (HtA.out.trans (Below.mono h0 (by have := HzA.out; omega))) (by omega) _ _ _ _

end Go.Proofs.YtgnppnjhecfjeaaDoor

/- The program's band of layer 3: holds, narrow. -/
namespace Go.Proofs.YtgnppnjhecfjeaaDoor
open Go.RowKit

theorem mask_val (b s : Nat) (h : b + s ≤ 64) : IntKind.u64.wrap (IntKind.u64.wrap (IntKind.u64.wrap (2 ^ b) - 1) * 2 ^ s) = (((2 ^ b - 1) * 2 ^ s : Nat) : Int) := by
  have hb : 2 ^ b ≤ 2 ^ 64 := Nat.pow_le_pow_right (by decide) (by omega)
  have hb1 : 1 ≤ 2 ^ b := Nat.one_le_two_pow
  have e0 : (2 : Int) ^ b = ((2 ^ b : Nat) : Int) := by rw [Int.natCast_pow]; rfl
  have e1 : IntKind.u64.wrap (IntKind.u64.wrap (2 ^ b) - 1) = ((2 ^ b - 1 : Nat) : Int) := by
    rw [e0]
    simp only [IntKind.wrap_u64]
    omega
  have e2 : (2 : Int) ^ s = ((2 ^ s : Nat) : Int) := by rw [Int.natCast_pow]; rfl
  rw [e1, e2, ← Int.natCast_mul]
  refine wrap_big _ ?_
  have h1 : (2 ^ b - 1) * 2 ^ s < 2 ^ b * 2 ^ s := Nat.mul_lt_mul_of_pos_right (by omega) (Nat.two_pow_pos s)
  rw [← Nat.pow_add] at h1
  exact Nat.lt_of_lt_of_le h1 (Nat.pow_le_pow_right (by decide) h)
theorem mask_bit (b s i : Nat) : ((2 ^ b - 1) * 2 ^ s).testBit i = (decide (s ≤ i) && decide (i < s + b)) := by
  rw [Nat.testBit_mul_two_pow, Nat.testBit_two_pow_sub_one]
  by_cases h : s ≤ i
  · rw [decide_eq_true h, Bool.true_and, Bool.true_and]
    congr 1
    rw [eq_iff_iff]; omega
  · rw [decide_eq_false h, Bool.false_and, Bool.false_and]
theorem andNot_zero (D M : Nat) (hD : D < 18446744073709551616) (hM : M < 18446744073709551616) : (bits .andNot .u64 (D : Int) (M : Int) = 0) ↔ ∀ i, D.testBit i = true → M.testBit i = true := by
  have e : bits .andNot .u64 (D : Int) (M : Int) = (((BitVec.ofNat 64 D &&& ~~~ BitVec.ofNat 64 M).toNat : Nat) : Int) := by
    show IntKind.u64.wrap ((BitVec.ofInt 64 (D : Int) &&& ~~~ BitVec.ofInt 64 (M : Int)).toNat : Int) = _
    rw [BitVec.ofInt_natCast, BitVec.ofInt_natCast]
    exact wrap_big _ (BitVec.isLt _)
  rw [e]
  have e2 : (((BitVec.ofNat 64 D &&& ~~~ BitVec.ofNat 64 M).toNat : Nat) : Int) = 0 ↔ BitVec.ofNat 64 D &&& ~~~ BitVec.ofNat 64 M = 0#64 := by
    rw [← BitVec.toNat_inj]
    simp only [BitVec.toNat_ofNat, Nat.zero_mod]
    omega
  rw [e2]
  constructor
  · intro h i hi
    have hi64 : i < 64 := by
      rcases Nat.lt_or_ge i 64 with h1 | h1
      · exact h1
      · rw [Nat.testBit_lt_two_pow (Nat.lt_of_lt_of_le hD (Nat.pow_le_pow_right (show 0 < 2 by decide) h1))] at hi
        cases hi
    have := congrArg (fun x : BitVec 64 => x.getLsbD i) h
    simp only [BitVec.getLsbD_and, BitVec.getLsbD_not, BitVec.getLsbD_ofNat, BitVec.getLsbD_zero, decide_eq_true hi64, Bool.true_and, hi] at this
    simpa using this
  · intro h
    apply BitVec.eq_of_getLsbD_eq
    intro i hi
    simp only [BitVec.getLsbD_and, BitVec.getLsbD_not, BitVec.getLsbD_ofNat, BitVec.getLsbD_zero, decide_eq_true hi, Bool.true_and]
    cases hd : D.testBit i
    · simp
    · rw [h i hd]; simp
theorem holds_mask (l b D : Nat) (hlb : l + b ≤ 64) (hD : D < 18446744073709551616) : (bits .andNot .u64 (D : Int) (IntKind.u64.wrap (IntKind.u64.wrap (IntKind.u64.wrap (2 ^ b) - 1) * 2 ^ (64 - l - b))) == 0) = holdsX l b D := by
  have hM : (2 ^ b - 1) * 2 ^ (64 - l - b) < 18446744073709551616 := by
    have h1 : (2 ^ b - 1) * 2 ^ (64 - l - b) < 2 ^ b * 2 ^ (64 - l - b) := Nat.mul_lt_mul_of_pos_right (by have := Nat.one_le_two_pow (n := b); omega) (Nat.two_pow_pos _)
    rw [← Nat.pow_add] at h1
    exact Nat.lt_of_lt_of_le h1 (Nat.pow_le_pow_right (show 0 < 2 by decide) (show b + (64 - l - b) ≤ 64 by omega))
  rw [mask_val b (64 - l - b) (by omega), Bool.eq_iff_iff, beq_iff_eq, andNot_zero D _ hD hM]
  unfold holdsX
  rw [decide_eq_true_eq]
  generalize hs : 64 - l - b = s
  have e : 64 - l = s + b := by omega
  rw [e]
  constructor
  · intro h
    constructor
    · apply Nat.eq_of_testBit_eq
      intro i
      rw [Nat.testBit_mod_two_pow, Nat.zero_testBit]
      by_cases hi : i < s
      · cases hd : D.testBit i
        · simp
        · have := h i hd
          rw [mask_bit, Bool.and_eq_true, decide_eq_true_eq] at this
          omega
      · simp [hi]
    · apply Nat.lt_pow_two_of_testBit
      intro i hi
      cases hd : D.testBit i
      · rfl
      · have := h i hd
        rw [mask_bit, Bool.and_eq_true, decide_eq_true_eq, decide_eq_true_eq] at this
        omega
  · rintro ⟨h1, h2⟩ i hi
    rw [mask_bit, Bool.and_eq_true, decide_eq_true_eq, decide_eq_true_eq]
    constructor
    · rcases Nat.lt_or_ge i s with hlt | hge
      · exfalso
        have := congrArg (fun x : Nat => x.testBit i) h1
        simp [Nat.testBit_mod_two_pow, hlt, hi] at this
      · exact hge
    · rcases Nat.lt_or_ge i (s + b) with hlt | hge
      · exact hlt
      · rw [Nat.testBit_lt_two_pow (Nat.lt_of_lt_of_le h2 (Nat.pow_le_pow_right (by decide) hge))] at hi
        cases hi

set_option maxRecDepth 100000 in
set_option maxHeartbeats 1000000 in
theorem holds_any (l b D : Nat) (w : World) (hlb : l + b ≤ 64) (hD : D < 18446744073709551616) :
    Calls Tryd.prog 67 #[.agg #[.int .i64 l, .int .i64 b], .int .u64 D] w fun e w' => e = .returned (.bool (holdsX l b D)) ∧ Below w.heap.size w w' := by
  have hmx : Tryd.prog.follows .mixedOrders = true := by kernel_rfl
  have hB := Blk.new w 80 #[.int .i64 l, .int .i64 b]
  have tB := below_alloc w (.cells #[.int .i64 l, .int .i64 b] 80)
  have l0 : (0 : Int) ≤ l := by omega
  have b0 : (0 : Int) ≤ b := by omega
  go_enter Tryd.func67, Tryd.ntmps67
  go_wp2_with fail
  generalize w.alloc (.cells #[.int .i64 l, .int .i64 b] 80) = W at *
  have qq : ∀ x, (plus W x).cell? ⟨w.heap.size, 0, none⟩ = some (.int .i64 l) ∧ (plus W x).cell? ⟨w.heap.size, 1, none⟩ = some (.int .i64 b) := fun x => (hB.below (plus_below W x) hB.lt : Blk (plus W x) w.heap.size 80 #[.int .i64 l, .int .i64 b]).duo.1
  refine wp_region_fresh [] [5] (fun _ v _ => v = .int .i64 (64 - (l : Int) - b)) hmx (by kernel_rfl) (by kernel_rfl) ?_
  iterate 5 (refine walkF_one none W rfl (by kernel_rfl) ?_; go_big_quiet_step (fail); refine wpQuiet_nil ?_)
  refine walkF_make none W rfl rfl rfl (by kernel_rfl) (fun x => ?_) ?_
  · refine grow_call ?_ ((behind_any l b (plus W x) (by omega) (by omega)).mono ?_)
    · simp [execOp, go_sem]
    · rintro e w4 ⟨rfl, b4⟩
      exact ⟨_, rfl, b4, rfl⟩
  rintro v z rfl gz
  conv => arg 11; simp [Act.put]
  iterate 2 (refine walkF_one none W rfl (by kernel_rfl) ?_; go_big_quiet_step (fail); refine wpQuiet_nil ?_)
  refine walkF_end ?_
  intro w' h0 hE
  clear hE qq
  go_wp2_with fail
  go_ret
  exact ⟨ret_bool (holds_mask l b D hlb hD), tB.trans (Below.mono h0 tB.size)⟩

end Go.Proofs.YtgnppnjhecfjeaaDoor
