/- The document's written of layer 3: the same value again. -/
import Derived.Test.YtfooggamdbdniaaDoorXr4
import Derived.Test.YtfooggamdbdniaaDoorAppR
namespace Go.Proofs.YtfooggamdbdniaaDoor
open Go.RowKit

theorem xor_int (v p : Nat) (hv : v < 18446744073709551616) (hp : p < 18446744073709551616) : bits .xor .u64 (v : Int) (p : Int) = ((v ^^^ p : Nat) : Int) := by
  have hx : v ^^^ p < 2 ^ 64 := Nat.xor_lt_two_pow hv hp
  have h1 : (BitVec.ofInt 64 (v : Int)).toNat = v := by
    rw [BitVec.ofInt_natCast, BitVec.toNat_ofNat]; exact Nat.mod_eq_of_lt hv
  have h2 : (BitVec.ofInt 64 (p : Int)).toNat = p := by
    rw [BitVec.ofInt_natCast, BitVec.toNat_ofNat]; exact Nat.mod_eq_of_lt hp
  show IntKind.u64.wrap ((BitVec.ofInt 64 (v : Int) ^^^ BitVec.ofInt 64 (p : Int)).toNat : Int) = _
  rw [BitVec.toNat_xor, h1, h2]
  exact wrap_big _ hx

set_option maxRecDepth 100000 in
set_option maxHeartbeats 2000000 in
theorem written_same (l b v : Nat) (w : World) (hv : v < 18446744073709551616) :
    Calls Tryd.prog 24 #[.agg #[.bool true, .int .u64 v, .int .u8 l, .int .u8 b], .int .u64 v] w fun e w' => WrOut ⟨true, v, l, b⟩ v w.heap.size e w' ∧ Below w.heap.size w w' := by
  have hmx : Tryd.prog.follows .mixedOrders = true := by kernel_rfl
  have hx : bits .xor .u64 (v : Int) (v : Int) = 0 := by rw [xor_int v v hv hv, Nat.xor_self]; rfl
  have hB0 : Blk ((((w.alloc (.cells #[.bool true, .int .u64 v, .int .u8 l, .int .u8 b] 24)).alloc (.cells #[.bool false, .int .u64 0, .int .u8 0, .int .u8 0] 24)))) w.heap.size 24 #[.bool true, .int .u64 v, .int .u8 l, .int .u8 b] := (Blk.new w _ _).alloc _
  have hB1 : Blk ((w.alloc (.cells #[.bool true, .int .u64 v, .int .u8 l, .int .u8 b] 24)).alloc (.cells #[.bool false, .int .u64 0, .int .u8 0, .int .u8 0] 24)) (w.heap.size + 1) 24 #[.bool false, .int .u64 0, .int .u8 0, .int .u8 0] := by
    have := Blk.new (w.alloc (.cells #[.bool true, .int .u64 v, .int .u8 l, .int .u8 b] 24)) 24 #[.bool false, .int .u64 0, .int .u8 0, .int .u8 0]
    rwa [World.size_alloc] at this
  have tA := below_alloc2 w (.cells #[.bool true, .int .u64 v, .int .u8 l, .int .u8 b] 24) (.cells #[.bool false, .int .u64 0, .int .u8 0, .int .u8 0] 24)
  have zA : ((w.alloc (.cells #[.bool true, .int .u64 v, .int .u8 l, .int .u8 b] 24)).alloc (.cells #[.bool false, .int .u64 0, .int .u8 0, .int .u8 0] 24)).heap.size = w.heap.size + 2 := by simp
  have HB1 := Lib.hid hB1
  have HB0 := Lib.hid hB0
  have HtA := Lib.hid tA
  have HzA := Lib.hid zA
  clear hB0 hB1 tA zA
  go_enter Tryd.func24, Tryd.ntmps24
  go_wp2_with fail
  generalize (w.alloc (.cells #[.bool true, .int .u64 v, .int .u8 l, .int .u8 b] 24)).alloc (.cells #[.bool false, .int .u64 0, .int .u8 0, .int .u8 0] 24) = W at *
  have q : ∀ x, (plus W x).cell? ⟨w.heap.size, 0, none⟩ = some (.bool true) ∧ (plus W x).cell? ⟨w.heap.size, 1, none⟩ = some (.int .u64 v) ∧ (plus W x).cell? ⟨w.heap.size, 2, none⟩ = some (.int .u8 l) ∧ (plus W x).cell? ⟨w.heap.size, 3, none⟩ = some (.int .u8 b) := fun x =>
    ((HB0.out.below (plus_below W x) HB0.out.lt : Blk (plus W x) w.heap.size 24 #[.bool true, .int .u64 v, .int .u8 l, .int .u8 b])).quad.1
  refine wp_region_fresh_tail 5 [none, none, some 1] [1, 2] (fun k V z => if k = 1 then ∃ g, V = .slice (some ⟨g, 0, none⟩) 1 1 ∧ Bs z (some ⟨g, 0, none⟩) [0] else ∃ A' c', V = .slice A' 1 c' ∧ OwnB z (w.heap.size + 2) V [0]) hmx (by kernel_rfl) (by kernel_rfl) ?_
  simp only [List.take_succ_cons, List.take_zero, List.drop_succ_cons, List.drop_zero]
  refine walkF_one none W rfl (by kernel_rfl) ?_
  go_big_quiet_step (fail)
  refine wpQuiet_nil ?_
  refine walkF_make none W rfl rfl rfl (by kernel_rfl) (fun x => grow_bytes _ [0] 5 ?_ ?_) ?_
  · simp [execOp, go_sem]
    rfl
  · intro g z hb
    exact ⟨g, rfl, hb.bs⟩
  rintro V1 z1 ⟨g, rfl, hb1⟩ g1
  conv => arg 11; simp [Act.put]
  have zz : ∀ x, w.heap.size + 2 ≤ (plus z1 x).heap.size := fun x => by
    have h1 := HzA.out
    have h2 := Below.size g1
    have h3 := (plus_below z1 x).size
    omega
  refine walkF_make (some 1) z1 rfl rfl rfl (by kernel_rfl) (fun x => grow_appNil (.tmp 27) (.tmp 28) rfl rfl (some ⟨g, 0, none⟩) 1 1 [0] rfl rfl (hb1.below (plus_below z1 x)) (by simp) (w.heap.size + 2) (zz x)) ?_
  rintro V2 z2 ⟨A2, c2, rfl, o2⟩ g2
  conv => arg 11; simp [Act.put]
  iterate 2 (refine walkF_one none W rfl (by kernel_rfl) ?_; go_big_quiet_step (fail); refine wpQuiet_nil ?_)
  refine walkF_end ?_
  intro w' h0 hE
  have hE2 : Gr z2 w' := hE 2
  have o3 := o2.below hE2
  have HB := Lib.hid (HB1.out.below h0 HB1.out.lt : Blk w' (w.heap.size + 1) 24 #[.bool false, .int .u64 0, .int .u8 0, .int .u8 0])
  obtain ⟨⟨r0, r1, r2, r3⟩, f0, f1, f2, f3⟩ := HB.out.quad
  clear hE hE2 q zz o2 hb1
  go_wp2_with fail
  have hF := HB.out.set4 (.bool true) (.int .u64 v) (.int .u8 l) (.int .u8 b)
  obtain ⟨⟨s0, s1, s2, s3⟩, -⟩ := hF.quad
  have hW : WrOut ⟨true, v, l, b⟩ v w.heap.size (.returned (.tuple #[.slice A2 1 c2, .agg #[.bool true, .int .u64 v, .int .u8 l, .int .u8 b]])) ((((w'.setCell ⟨w.heap.size + 1, 0, none⟩ (.bool true)).setCell ⟨w.heap.size + 1, 1, none⟩ (.int .u64 v)).setCell ⟨w.heap.size + 1, 2, none⟩ (.int .u8 l)).setCell ⟨w.heap.size + 1, 3, none⟩ (.int .u8 b)) := by
    have he : encX ⟨true, v, l, b⟩ v = ([false], ⟨true, v, l, b⟩) := by
      unfold encX
      rw [if_neg (by simp), if_pos (Nat.xor_self _)]
    unfold WrOut
    rw [he]
    exact ⟨A2, 1, c2, rfl, rfl, (o3.far4 (by omega) _ _ _ _).mono (by omega)⟩
  refine bodyPost_ret (v := .tuple #[.slice A2 1 c2, .agg #[.bool true, .int .u64 v, .int .u8 l, .int .u8 b]]) (by simp [results, Tryd.results24, go_sem, s0, s1, s2, s3]) rfl ⟨hW, ?_⟩
  exact below_set4 (HtA.out.trans (Below.mono h0 (by have := HzA.out; omega))) (by omega) _ _ _ _

end Go.Proofs.YtfooggamdbdniaaDoor
