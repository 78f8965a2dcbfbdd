/- The program's encode of layer 3. -/
import Derived.Test.YtfooggamdbdniaaDoorXr9
namespace Go.Proofs.YtfooggamdbdniaaDoor
open Go.RowKit

theorem rw_new {w : World} {g : Nat} {t : TypeId} {fs : List (Nat × Nat)} (h : Blk w g t (fs.flatMap encFd).toArray) : Rw w encFd 2 (some ⟨g, 0, none⟩) fs := fun i x hi => by
  refine ⟨g, 0, rfl, fun j v hj => ?_⟩
  have hj2 : j < 2 := by
    have := (List.getElem?_eq_some_iff.1 hj).1
    simpa [encFd] using this
  rw [Nat.zero_add, h.cell]
  have := flat_get encFd 2 (fun _ => rfl) fs i x hi j hj2
  simpa [this] using hj

/-- the boxes of encode: what came, the two results, the band -/
structure EncB (w W : World) (g : Nat) (h : Bool) (p l b : Nat) : Prop where
  h0 : Blk W w.heap.size 24 #[.bool h, .int .u64 p, .int .u8 l, .int .u8 b]
  h1 : Blk W (w.heap.size + 1) 29 #[.slice none 0 0, .int .i64 0]
  h2 : Blk W (w.heap.size + 2) 24 #[.bool false, .int .u64 0, .int .u8 0, .int .u8 0]
  h3 : Blk W g 50 #[.int .i64 l, .int .i64 b]
  t : Below w.heap.size w W
  z : w.heap.size + 3 ≤ g
theorem EncB.go {w W W' : World} {g : Nat} {h : Bool} {p l b : Nat} (H : EncB w W g h p l b) (hb : Below W.heap.size W W') : EncB w W' g h p l b :=
  ⟨H.h0.below hb H.h0.lt, H.h1.below hb H.h1.lt, H.h2.below hb H.h2.lt, H.h3.below hb H.h3.lt, H.t.trans (hb.mono H.t.size), H.z⟩
theorem EncB.zz {w W : World} {g : Nat} {h : Bool} {p l b : Nat} (H : EncB w W g h p l b) : w.heap.size + 4 ≤ W.heap.size := by
  have := H.h3.lt
  have := H.z
  omega
/-- the two results, stored -/
theorem EncB.fin {w W : World} {g : Nat} {h : Bool} {p l b : Nat} (H : EncB w W g h p l b) (a c d e f u : Value) :
    Blk ((((((W.setCell ⟨w.heap.size + 1, 0, none⟩ a).setCell ⟨w.heap.size + 1, 1, none⟩ c).setCell ⟨w.heap.size + 2, 0, none⟩ d).setCell ⟨w.heap.size + 2, 1, none⟩ e).setCell ⟨w.heap.size + 2, 2, none⟩ f).setCell ⟨w.heap.size + 2, 3, none⟩ u) (w.heap.size + 1) 29 #[a, c] ∧
    Blk ((((((W.setCell ⟨w.heap.size + 1, 0, none⟩ a).setCell ⟨w.heap.size + 1, 1, none⟩ c).setCell ⟨w.heap.size + 2, 0, none⟩ d).setCell ⟨w.heap.size + 2, 1, none⟩ e).setCell ⟨w.heap.size + 2, 2, none⟩ f).setCell ⟨w.heap.size + 2, 3, none⟩ u) (w.heap.size + 2) 24 #[d, e, f, u] ∧
    Below w.heap.size w ((((((W.setCell ⟨w.heap.size + 1, 0, none⟩ a).setCell ⟨w.heap.size + 1, 1, none⟩ c).setCell ⟨w.heap.size + 2, 0, none⟩ d).setCell ⟨w.heap.size + 2, 1, none⟩ e).setCell ⟨w.heap.size + 2, 2, none⟩ f).setCell ⟨w.heap.size + 2, 3, none⟩ u) := by
  refine ⟨?_, ?_, ?_⟩
  · exact ((((H.h1.set2 a c).far _ _ (by simp)).far _ _ (by simp)).far _ _ (by simp)).far _ _ (by simp)
  · exact ((H.h2.far _ _ (by simp)).far _ _ (by simp)).set4 d e f u
  · exact below_set4 ((H.t.setCell (p := ⟨w.heap.size + 1, 0, none⟩) (by simp) a).setCell (p := ⟨w.heap.size + 1, 1, none⟩) (by simp) c) (by omega) d e f u
theorem OwnB.encFin {w W : World} {base : Nat} {V : Value} {L : List UInt8} (H : OwnB W base V L) (hb : w.heap.size + 3 ≤ base) (a c d e f u : Value) :
    OwnB ((((((W.setCell ⟨w.heap.size + 1, 0, none⟩ a).setCell ⟨w.heap.size + 1, 1, none⟩ c).setCell ⟨w.heap.size + 2, 0, none⟩ d).setCell ⟨w.heap.size + 2, 1, none⟩ e).setCell ⟨w.heap.size + 2, 2, none⟩ f).setCell ⟨w.heap.size + 2, 3, none⟩ u) w.heap.size V L :=
  ((H.far2 (show w.heap.size + 1 < base by omega) a c).far4 (show w.heap.size + 2 < base by omega) d e f u).mono (by omega)

/-- encode's answer -/
def EncOut (M : List Bool) (T : XV) (base : Nat) (e : Ending) (w : World) : Prop :=
  ∃ A n c, n = (pack M).length ∧ e = .returned (.tuple #[.agg #[.slice A n c, .int .i64 (M.length : Nat)], .agg #[.bool T.has, .int .u64 (T.prev : Nat), .int .u8 (T.lead : Nat), .int .u8 (T.width : Nat)]]) ∧ OwnB w base (.slice A n c) (pack M)

set_option maxRecDepth 100000 in
set_option maxHeartbeats 1000000 in
theorem encode_first (p l b v D : Nat) (w : World) (hv : v < 18446744073709551616) (hp : p < 18446744073709551616) (hlb : l + b ≤ 64) (hD : D = v ^^^ p) :
    Calls Tryd.prog 21 #[.agg #[.bool false, .int .u64 p, .int .u8 l, .int .u8 b], .int .u64 v] w fun e w' => EncOut (valB v 64) ⟨true, v, 0, 0⟩ w.heap.size e w' ∧ Below w.heap.size w w' := by
  have hmx : Tryd.prog.follows .mixedOrders = true := by kernel_rfl
  have hl : l < 256 := by omega
  have hb : b < 256 := by omega
  obtain ⟨W, hW⟩ : ∃ W, W = ((w.alloc (.cells #[.bool false, .int .u64 p, .int .u8 l, .int .u8 b] 24)).alloc (.cells #[.slice none 0 0, .int .i64 0] 29)).alloc (.cells #[.bool false, .int .u64 0, .int .u8 0, .int .u8 0] 24) := ⟨_, rfl⟩
  have s1 : (w.alloc (.cells #[.bool false, .int .u64 p, .int .u8 l, .int .u8 b] 24)).heap.size = w.heap.size + 1 := by simp
  have s2 : ((w.alloc (.cells #[.bool false, .int .u64 p, .int .u8 l, .int .u8 b] 24)).alloc (.cells #[.slice none 0 0, .int .i64 0] 29)).heap.size = w.heap.size + 2 := by simp
  have B0 : Blk W w.heap.size 24 #[.bool false, .int .u64 p, .int .u8 l, .int .u8 b] := by rw [hW]; exact ((Blk.new w _ _).alloc _).alloc _
  have B1 : Blk W (w.heap.size + 1) 29 #[.slice none 0 0, .int .i64 0] := by
    rw [hW]
    have := (Blk.new (w.alloc (.cells #[.bool false, .int .u64 p, .int .u8 l, .int .u8 b] 24)) 29 #[.slice none 0 0, .int .i64 0]).alloc (.cells #[.bool false, .int .u64 0, .int .u8 0, .int .u8 0] 24)
    rwa [s1] at this
  have B2 : Blk W (w.heap.size + 2) 24 #[.bool false, .int .u64 0, .int .u8 0, .int .u8 0] := by
    rw [hW]
    have := Blk.new ((w.alloc (.cells #[.bool false, .int .u64 p, .int .u8 l, .int .u8 b] 24)).alloc (.cells #[.slice none 0 0, .int .i64 0] 29)) 24 #[.bool false, .int .u64 0, .int .u8 0, .int .u8 0]
    rwa [s2] at this
  have tW : Below w.heap.size w W := by rw [hW]; exact ((below_alloc w _).alloc (by simp) _).alloc (by simp; omega) _
  have zW : W.heap.size = w.heap.size + 3 := by rw [hW]; simp
  clear s1 s2
  have HB0 := Lib.hid B0
  have HB1 := Lib.hid B1
  have HB2 := Lib.hid B2
  have HzW := Lib.hid zW
  have HtW := Lib.hid tW
  have q : ∀ x, (plus W x).cell? ⟨w.heap.size, 0, none⟩ = some (.bool false) ∧ (plus W x).cell? ⟨w.heap.size, 1, none⟩ = some (.int .u64 p) ∧ (plus W x).cell? ⟨w.heap.size, 2, none⟩ = some (.int .u8 l) ∧ (plus W x).cell? ⟨w.heap.size, 3, none⟩ = some (.int .u8 b) := fun x =>
    ((HB0.out.below (plus_below W x) HB0.out.lt : Blk (plus W x) w.heap.size 24 #[.bool false, .int .u64 p, .int .u8 l, .int .u8 b])).quad.1
  have hx : bits .xor .u64 (v : Int) (p : Int) = (D : Int) := by rw [xor_int v p hv hp, hD]
  have HW := Lib.hid hW
  have HD := Lib.hid hD
  clear B0 B1 B2 zW tW hW hD
  go_enter Tryd.func21, Tryd.ntmps21
  go_wp2_with fail
  rw [← HW.out]
  refine wp_region_fresh_tail 7 [] [5, 6] (fun k V z => if k = 5 then V = .agg #[.int .i64 l, .int .i64 b] else ∃ g, V = .pointer (some ⟨g, 0, none⟩) ∧ Blk z g 50 #[.int .i64 0, .int .i64 0] ∧ W.heap.size ≤ g) hmx (by kernel_rfl) (by kernel_rfl) ?_
  simp only [List.take_succ_cons, List.take_zero, List.drop_succ_cons, List.drop_zero]
  iterate 5 (refine walkF_one none W rfl (by kernel_rfl) ?_; go_big_quiet_step (fail); refine wpQuiet_nil ?_)
  refine walkF_make none W rfl rfl rfl (by kernel_rfl) (fun x => ?_) ?_
  · refine grow_call ?_ ((bandOf_any false p l b (plus W x) hl hb).mono ?_)
    · simp [execOp, go_sem]
    · rintro e w4 ⟨rfl, b4⟩
      exact ⟨_, rfl, b4, rfl⟩
  rintro V1 z1 rfl g1
  conv => arg 11; simp [Act.put]
  refine walkF_make none W rfl rfl rfl (by kernel_rfl) (fun x => ?_) ?_
  · have hr : ∀ w' : World, (execOp (Act.eval { tmps := #[], defers := [] }) { dst := none, op := .alloc 50, type := 0, pos := "", after := #[], guard := none }).run Tryd.prog w' = .ok (.value (.pointer (some ⟨w'.heap.size, 0, none⟩))) (w'.alloc (.cells #[.int .i64 0, .int .i64 0] 50)) := fun w' => by simp [execOp, go_sem]
    have hr2 := hr (plus W x)
    unfold growUpon
    simp only [execOp] at hr2 ⊢
    rw [hr2]
    exact ⟨below_alloc _ _, _, rfl, Blk.new _ _ _, (plus_below W x).size⟩
  rintro V2 z2 ⟨g, rfl, hg, hgz⟩ g2
  conv => arg 11; simp [Act.put]
  refine walkF_end ?_
  intro w' h0 hE
  have hg' : Blk w' g 50 #[.int .i64 0, .int .i64 0] := hg.below (hE 6) hg.lt
  have HG := Lib.hid hg'
  have hgz3 : w.heap.size + 3 ≤ g := by have := HzW.out; omega
  have EB := Lib.hid (⟨(HB0.out.below h0 HB0.out.lt).far _ _ (by simp; omega) |>.far _ _ (by simp; omega), (HB1.out.below h0 HB1.out.lt).far _ _ (by simp; omega) |>.far _ _ (by simp; omega), (HB2.out.below h0 HB2.out.lt).far _ _ (by simp; omega) |>.far _ _ (by simp; omega), hg'.set2 _ _, ((HtW.out.trans (Below.mono h0 (by have := HtW.out.size; omega))).setCell (by simp; omega) _).setCell (by simp; omega) _, hgz3⟩ : EncB w ((w'.setCell ⟨g, 0, none⟩ (.int .i64 l)).setCell ⟨g, 1, none⟩ (.int .i64 b)) g false p l b)
  obtain ⟨⟨-, -⟩, y0, y1⟩ := HG.out.duo
  obtain ⟨⟨x0, x1⟩, -⟩ := HG.out.duo
  have EQ := EB.out.h0.quad.1
  clear hE q hg hg' hgz h0
  go_wp2_with fail
  obtain ⟨W2, hW2⟩ : ∃ W2, W2 = (w'.setCell ⟨g, 0, none⟩ (.int .i64 l)).setCell ⟨g, 1, none⟩ (.int .i64 b) := ⟨_, rfl⟩
  have hsz : w'.heap.size = W2.heap.size := by rw [hW2]; simp [World.setCell]
  rw [← hW2] at EB
  rw [hsz, ← hW2]
  clear hsz hW2 HG y0 y1 x0 x1 EQ
  have hR : Rw (W2.alloc (.cells #[.int .u64 v, .int .i64 64] 71)) encFd 2 (some ⟨W2.heap.size, 0, none⟩) [(v, 64)] := rw_new (Blk.new W2 _ _)
  refine (numbers_any (some ⟨W2.heap.size, 0, none⟩) 1 [(v, 64)] _ hR (by simpa using hv) (by simp)).mono ?_
  rintro e w3 ⟨A3, n3, c3, rfl, hn3, o3, b3⟩
  rw [show catFd [(v, 64)] = valB v 64 by simp [catFd]] at hn3 o3 ⊢
  have Hn3 := Lib.hid hn3
  have b23 : Below W2.heap.size W2 w3 := go1 b3
  have EB3 := Lib.hid (EB.out.go b23)
  have EQ := EB3.out.h0.quad.1
  have o3 := o3.mono (show W2.heap.size ≤ _ by simp)
  clear hn3 hR
  go_wp2_with (go_at_call 28; refine (after_any 0 0 v _ (by omega) (by omega)).mono ?_; rintro e w4 ⟨rfl, b4⟩; have EB4 := Lib.hid (EB3.out.go b4); have o4 := o3.below b4; obtain ⟨⟨y0, y1⟩, x0, x1⟩ := EB4.out.h1.duo; obtain ⟨⟨m0, m1, m2, m3⟩, k0, k1, k2, k3⟩ := EB4.out.h2.quad)
  obtain ⟨f1, f2, f3⟩ := EB4.out.fin (.slice A3 n3 c3) (.int .i64 ((valB v 64).length : Nat)) (.bool true) (.int .u64 v) (.int .u8 0) (.int .u8 0)
  obtain ⟨⟨r0, r1⟩, -⟩ := f1.duo
  obtain ⟨⟨s0, s1, s2, s3⟩, -⟩ := f2.quad
  refine bodyPost_ret (v := .tuple #[.agg #[.slice A3 n3 c3, .int .i64 ((valB v 64).length : Nat)], .agg #[.bool true, .int .u64 v, .int .u8 0, .int .u8 0]]) (by simp [results, Tryd.results21, go_sem, r0, r1, s0, s1, s2, s3]) rfl ⟨⟨A3, n3, c3, Hn3.out, rfl, ?_⟩, f3⟩
  exact o4.encFin (by have := EB.out.zz; omega) _ _ _ _ _ _

end Go.Proofs.YtfooggamdbdniaaDoor
