/- The document's written of layer 3: first values, and values that are the same again. -/
import Derived.Test.YtfooggamdbdniaaDoorXr3
import Derived.Deep.DeepCutAuto
namespace Go.Proofs.YtfooggamdbdniaaDoor
open Go.RowKit

theorem Blk.set4 {w : World} {g : Nat} {t : TypeId} {x y z u : Value} (h : Blk w g t #[x, y, z, u]) (a b c d : Value) : Blk ((((w.setCell ⟨g, 0, none⟩ a).setCell ⟨g, 1, none⟩ b).setCell ⟨g, 2, none⟩ c).setCell ⟨g, 3, none⟩ d) g t #[a, b, c, d] := by simpa using (((h.set 0 a).set 1 b).set 2 c).set 3 d
theorem below_set4 {w0 w : World} {B g : Nat} (h : Below B w0 w) (hg : B ≤ g) (a b c d : Value) : Below B w0 ((((w.setCell ⟨g, 0, none⟩ a).setCell ⟨g, 1, none⟩ b).setCell ⟨g, 2, none⟩ c).setCell ⟨g, 3, none⟩ d) :=
  (((h.setCell hg _).setCell hg _).setCell hg _).setCell hg _
theorem OwnB.far4 {w : World} {base : Nat} {v : Value} {l : List UInt8} (h : OwnB w base v l) {g : Nat} (hg : g < base) (a b c d : Value) : OwnB ((((w.setCell ⟨g, 0, none⟩ a).setCell ⟨g, 1, none⟩ b).setCell ⟨g, 2, none⟩ c).setCell ⟨g, 3, none⟩ d) base v l :=
  (((h.far (h.ne hg) _).far (h.ne hg) _).far (h.ne hg) _).far (h.ne hg) _
theorem Blk.quad {w : World} {g : Nat} {t : TypeId} {x y z u : Value} (h : Blk w g t #[x, y, z, u]) :
    (w.cell? ⟨g, 0, none⟩ = some x ∧ w.cell? ⟨g, 1, none⟩ = some y ∧ w.cell? ⟨g, 2, none⟩ = some z ∧ w.cell? ⟨g, 3, none⟩ = some u) ∧ (w.frozen? ⟨g, 0, none⟩ = false ∧ w.frozen? ⟨g, 1, none⟩ = false ∧ w.frozen? ⟨g, 2, none⟩ = false ∧ w.frozen? ⟨g, 3, none⟩ = false) :=
  ⟨⟨h.cell 0, h.cell 1, h.cell 2, h.cell 3⟩, h.frozen 0, h.frozen 1, h.frozen 2, h.frozen 3⟩

/-- the answer of written: a list of its own, and what is known then -/
def WrOut (s : XV) (v : Nat) (base : Nat) (e : Ending) (w : World) : Prop :=
  ∃ A n c, e = .returned (.tuple #[.slice A n c, .agg #[.bool (encX s v).2.has, .int .u64 (encX s v).2.prev, .int .u8 (encX s v).2.lead, .int .u8 (encX s v).2.width]]) ∧ n = (encX s v).1.length ∧ OwnB w base (.slice A n c) (u8s (encX s v).1)

set_option maxRecDepth 100000 in
set_option maxHeartbeats 2000000 in
theorem written_first (p l b v : Nat) (w : World) (hv : v < 18446744073709551616) :
    Calls Tryd.prog 24 #[.agg #[.bool false, .int .u64 p, .int .u8 l, .int .u8 b], .int .u64 v] w fun e w' => WrOut ⟨false, p, l, b⟩ v w.heap.size e w' ∧ Below w.heap.size w w' := by
  have hB : Blk ((w.alloc (.cells #[.bool false, .int .u64 p, .int .u8 l, .int .u8 b] 24)).alloc (.cells #[.bool false, .int .u64 0, .int .u8 0, .int .u8 0] 24)) (w.heap.size + 1) 24 #[.bool false, .int .u64 0, .int .u8 0, .int .u8 0] := by
    have := Blk.new (w.alloc (.cells #[.bool false, .int .u64 p, .int .u8 l, .int .u8 b] 24)) 24 #[.bool false, .int .u64 0, .int .u8 0, .int .u8 0]
    rwa [World.size_alloc] at this
  go_enter Tryd.func24, Tryd.ntmps24
  go_wp2_with (go_at_call 36; refine (rput_any (w.heap.size + 2) _ [] v 64 _ _ (Below.refl _ _) hv (by omega) (OwnB.nil _ _) (by simp) (by simp)).mono ?_; rintro e w1 ⟨A1, n1, c1, rfl, hn, o1, t1, z1⟩; have HB1 := Lib.hid (hB.below t1 (by omega)); obtain ⟨⟨r0, r1, r2, r3⟩, f0, f1, f2, f3⟩ := HB1.out.quad; have Hn := Lib.hid hn; clear hn hB)
  have hF := HB1.out.set4 (.bool true) (.int .u64 v) (.int .u8 0) (.int .u8 0)
  obtain ⟨⟨s0, s1, s2, s3⟩, -⟩ := hF.quad
  refine bodyPost_ret (v := .tuple #[.slice A1 n1 c1, .agg #[.bool true, .int .u64 v, .int .u8 0, .int .u8 0]]) (by simp [results, Tryd.results24, go_sem, s0, s1, s2, s3]) rfl ?_
  refine ⟨⟨A1, n1, c1, rfl, Hn.out, (o1.far4 (by omega) _ _ _ _).mono (by omega)⟩, ?_⟩
  exact below_set4 ((below_alloc2 w _ _).trans (t1.mono (by omega))) (by omega) _ _ _ _

end Go.Proofs.YtfooggamdbdniaaDoor
