/- Layer 13: Before, of the program and of the document. -/
import Derived.Test.YtlchnpmiaemobaaKqN
set_option linter.unusedSimpArgs false
set_option linter.unusedVariables false
namespace Go.Proofs.Ytlchnpmiaemobaa
open Go.RowKit

/-- is a place before another? -/
def bef (a0 a2 b0 b2 : Nat) : Bool := decide (a0 < b0) || (decide (a0 = b0) && decide (a2 < b2))

theorem before_any (a0 a1 a2 b0 b1 b2 : Nat) (w : World) :
    Calls Try.prog 18 #[.agg #[.int .u32 a0, .int .u32 a1, .int .u32 a2], .agg #[.int .u32 b0, .int .u32 b1, .int .u32 b2]] w fun e w' => e = .returned (.bool (bef a0 a2 b0 b2)) ∧ Below w.heap.size w w' := by
  have K := ((Qs.zero w).box #[.int .u32 a0, .int .u32 a1, .int .u32 a2] 29).box #[.int .u32 b0, .int .u32 b1, .int .u32 b2] 29
  have HK := Lib.hid K
  clear K
  by_cases h1 : a0 < b0
  · have k1 : (a0 : Int) < b0 := by omega
    have Hr : Hid (bef a0 a2 b0 b2 = true) := Lib.hid (by simp [bef, h1])
    clear h1
    go_enter Try.func18, Try.ntmps18
    go_wp2_with fail
    go_ret
    exact ⟨by rw [Hr.out]; rfl, HK.out.top 2⟩
  · have k1 : ¬ (a0 : Int) < b0 := by omega
    by_cases h2 : a0 = b0
    · subst h2
      by_cases h3 : a2 < b2
      · have k3 : (a2 : Int) < b2 := by omega
        have Hr : Hid (bef a0 a2 a0 b2 = true) := Lib.hid (by simp [bef, h3])
        clear h1 h3
        go_enter Try.func18, Try.ntmps18
        go_wp2_with fail
        go_ret
        exact ⟨by rw [Hr.out]; rfl, HK.out.top 2⟩
      · have k3 : ¬ (a2 : Int) < b2 := by omega
        have Hr : Hid (bef a0 a2 a0 b2 = false) := Lib.hid (by simp [bef]; omega)
        clear h1 h3
        go_enter Try.func18, Try.ntmps18
        go_wp2_with fail
        go_ret
        exact ⟨by rw [Hr.out]; rfl, HK.out.top 2⟩
    · have k2 : ((a0 : Int) == (b0 : Int)) = false := beq_eq_false_iff_ne.2 (by omega)
      have Hr : Hid (bef a0 a2 b0 b2 = false) := Lib.hid (by simp [bef, h2]; omega)
      clear h1 h2
      go_enter Try.func18, Try.ntmps18
      go_wp2_with fail
      go_ret
      exact ⟨by rw [Hr.out]; rfl, HK.out.top 2⟩

theorem rbefore_any (a0 a1 a2 b0 b1 b2 : Nat) (w : World) :
    Calls Try.prog 19 #[.agg #[.int .u32 a0, .int .u32 a1, .int .u32 a2], .agg #[.int .u32 b0, .int .u32 b1, .int .u32 b2]] w fun e w' => e = .returned (.bool (bef a0 a2 b0 b2)) ∧ Below w.heap.size w w' := by
  have K := ((Qs.zero w).box #[.int .u32 a0, .int .u32 a1, .int .u32 a2] 29).box #[.int .u32 b0, .int .u32 b1, .int .u32 b2] 29
  have HK := Lib.hid K
  clear K
  by_cases h1 : a0 < b0
  · have k1 : (a0 : Int) < b0 := by omega
    have Hr : Hid (bef a0 a2 b0 b2 = true) := Lib.hid (by simp [bef, h1])
    clear h1
    go_enter Try.func19, Try.ntmps19
    go_wp2_with fail
    go_ret
    exact ⟨by rw [Hr.out]; rfl, HK.out.top 2⟩
  · have k1 : ¬ (a0 : Int) < b0 := by omega
    by_cases h2 : a0 = b0
    · subst h2
      by_cases h3 : a2 < b2
      · have k3 : (a2 : Int) < b2 := by omega
        have Hr : Hid (bef a0 a2 a0 b2 = true) := Lib.hid (by simp [bef, h3])
        clear h1 h3
        go_enter Try.func19, Try.ntmps19
        go_wp2_with fail
        go_ret
        exact ⟨by rw [Hr.out]; rfl, HK.out.top 2⟩
      · have k3 : ¬ (a2 : Int) < b2 := by omega
        have Hr : Hid (bef a0 a2 a0 b2 = false) := Lib.hid (by simp [bef]; omega)
        clear h1 h3
        go_enter Try.func19, Try.ntmps19
        go_wp2_with fail
        go_ret
        exact ⟨by rw [Hr.out]; rfl, HK.out.top 2⟩
    · have k2 : ((a0 : Int) == (b0 : Int)) = false := beq_eq_false_iff_ne.2 (by omega)
      have Hr : Hid (bef a0 a2 b0 b2 = false) := Lib.hid (by simp [bef, h2]; omega)
      clear h1 h2
      go_enter Try.func19, Try.ntmps19
      go_wp2_with fail
      go_ret
      exact ⟨by rw [Hr.out]; rfl, HK.out.top 2⟩

end Go.Proofs.Ytlchnpmiaemobaa
