/- Joined: ClB. -/
import Derived.Test.YtiogckgchlnldaaGreatQ6
import Derived.Test.YtiogckgchlnldaaGreatQ5
import Derived.Lib.SliceRun
set_option linter.unusedSimpArgs false
set_option linter.unusedVariables false
/- bytes.Clone. -/
set_option linter.unusedSimpArgs false
set_option linter.unusedVariables false
namespace Go.Proofs.YtiogckgchlnldaaGreat
open Go.RowKit
set_option maxRecDepth 100000

theorem clone_bytes (ad : Addr) (c : Nat) (l : List UInt8) (w : World) (hA : Bs w (some ad) l) (hL : l.length ≤ 200000) :
    Calls Tryz.prog 48 #[.slice (some ad) l.length c] w fun e w' => ∃ A' c', e = .returned (.slice A' l.length c') ∧ Hid (OwnB w' w.heap.size (.slice A' l.length c') l ∧ Below w.heap.size w w') := by
  have HA := Lib.hid hA
  have HO := Lib.hid (own_built w [] (base := w.heap.size) (Nat.le_refl _) (by simp))
  have hnil : (binOp .eql 22 (.slice (some ad) l.length c) (.slice none 0 0)).run Tryz.prog w = .ok (.bool false) w := Go.Lib.run_eql_slice_nil w _ _ _ _ _ _ _ (by rfl)
  clear hA
  go_enter Tryz.func48, Tryz.ntmps48
  go_wp2_with (at_builtin; go_must (refine appAll _ rfl (.tmp 5) (.tmp 6) rfl w.heap.size _ [] rfl HO.out (some ad) c l rfl (HA.out.below (below_alloc w _)) (by simp; omega) (by simp) ?_); intro A2 c2 w2 hown2 hb2)
  go_ret
  simp only [List.length_nil, Nat.zero_add, List.nil_append] at hown2 ⊢
  exact ⟨A2, c2, rfl, Lib.hid ⟨hown2, ((Below.refl w.heap.size w).alloc (Nat.le_refl _) _).trans hb2⟩⟩

end Go.Proofs.YtiogckgchlnldaaGreat
