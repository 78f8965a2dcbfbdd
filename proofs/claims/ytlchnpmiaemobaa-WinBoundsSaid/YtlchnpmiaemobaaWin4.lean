/- Layer 13: which pieces Ack and Drop take out: their closures. -/
import Derived.Test.YtlchnpmiaemobaaWin3
set_option linter.unusedSimpArgs false
set_option linter.unusedVariables false
namespace Go.Proofs.Ytlchnpmiaemobaa
open Go.RowKit
set_option maxRecDepth 100000

def goneA (se t0 t2 : Nat) (p : PC) : Bool := decide (p.se = se) && !(bef t0 t2 p.t0 p.t2)
def goneD (se : Nat) (p : PC) : Bool := decide (p.se = se)

theorem ack1_any (s u : Nat) (se a0 a1 a2 : Nat) (p : PC) (w : World) (hs : Blk w s 27 #[.int .u32 se]) (hu : Blk w u 29 #[.int .u32 a0, .int .u32 a1, .int .u32 a2]) :
    Calls Try.prog 38 #[.agg (encP p).toArray, .pointer (some ⟨s, 0, none⟩), .pointer (some ⟨u, 0, none⟩)] w fun e w' => e = .returned (.bool (goneA se a0 a2 p)) ∧ Below w.heap.size w w' := by
  obtain ⟨ps, f0, f1, f2, t0, t1, t2, pn⟩ := p
  simp only [encP, goneA]
  have K := (((Qs.zero w).cons (k := qB _ _ _) hs).cons (k := qB _ _ _) hu).box #[.int .u32 ps, .int .u32 f0, .int .u32 f1, .int .u32 f2, .int .u32 t0, .int .u32 t1, .int .u32 t2, .int .i64 pn] 31
  have HK := Lib.hid K
  have C := K.says
  simp only [sayAll, cellsSay, qB, qW, qR, qZ, Nat.reduceAdd, and_true, true_and] at C
  clear K hs hu
  by_cases k : ps = se
  · subst k
    rw [decide_eq_true rfl, Bool.true_and]
    have hB := fun (W : World) => before_any a0 a1 a2 t0 t1 t2 W
    generalize bef a0 a2 t0 t2 = r at hB ⊢
    have HB := Lib.hid hB
    clear hB
    go_enter Try.func38, Try.ntmps38
    go_wp2_with fail
    refine (HB.out _).mono ?_
    rintro e w1 ⟨rfl, b1⟩
    clear C
    go_wp2_with fail
    go_ret
    exact ⟨rfl, on1 (HK.out.top 3) b1⟩
  · have k2 : ((ps : Int) == (se : Int)) = false := beq_eq_false_iff_ne.2 (by omega)
    rw [decide_eq_false k, Bool.false_and]
    clear k
    go_enter Try.func38, Try.ntmps38
    go_wp2_with fail
    go_ret
    exact ⟨rfl, HK.out.top 3⟩

theorem drop1_any (s : Nat) (se : Nat) (p : PC) (w : World) (hs : Blk w s 27 #[.int .u32 se]) :
    Calls Try.prog 39 #[.agg (encP p).toArray, .pointer (some ⟨s, 0, none⟩)] w fun e w' => e = .returned (.bool (goneD se p)) ∧ Below w.heap.size w w' := by
  obtain ⟨ps, f0, f1, f2, t0, t1, t2, pn⟩ := p
  simp only [encP, goneD]
  have K := ((Qs.zero w).cons (k := qB _ _ _) hs).box #[.int .u32 ps, .int .u32 f0, .int .u32 f1, .int .u32 f2, .int .u32 t0, .int .u32 t1, .int .u32 t2, .int .i64 pn] 31
  have HK := Lib.hid K
  have C := K.says
  simp only [sayAll, cellsSay, qB, qW, qR, qZ, Nat.reduceAdd, and_true, true_and] at C
  clear K hs
  by_cases k : ps = se
  · subst k
    rw [decide_eq_true rfl]
    go_enter Try.func39, Try.ntmps39
    go_wp2_with fail
    go_ret
    exact ⟨by simp, HK.out.top 2⟩
  · have k2 : ((ps : Int) == (se : Int)) = false := beq_eq_false_iff_ne.2 (by omega)
    rw [decide_eq_false k]
    clear k
    go_enter Try.func39, Try.ntmps39
    go_wp2_with fail
    go_ret
    exact ⟨rfl, HK.out.top 2⟩

end Go.Proofs.Ytlchnpmiaemobaa
