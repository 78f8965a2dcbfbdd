/- Contracts of the document's own functions of layer 1: Same. -/
import Derived.Test.YtpedobpbpomkaaaOwn
namespace Go.Proofs.Ytpedobpbpomkaaa
open Go.RowKit

set_option maxHeartbeats 400000 in
theorem refSame_any (A A' : Option Addr) (c c' : Nat) (l l' : List UInt8) (n n' : Int) (w : World) (hb : Bs w A l) (hb' : Bs w A' l') :
    Calls Try.prog 18 #[.agg #[.slice A l.length c, .int .i64 n], .agg #[.slice A' l'.length c', .int .i64 n']] w fun e w' => e = .returned (.bool (decide (n = n') && decide (l = l'))) ∧ Below w.heap.size w w' := by
  by_cases h : n = n'
  · subst h
    have h1 := str_of (hb.below (below_alloc2 w (.cells #[.slice A l.length c, .int .i64 n] 28) (.cells #[.slice A' l'.length c', .int .i64 n] 28))) c
    have h2 := str_of (hb'.below (below_alloc2 w (.cells #[.slice A l.length c, .int .i64 n] 28) (.cells #[.slice A' l'.length c', .int .i64 n] 28))) c'
    have hs := str_eq l l'
    have HS := Lib.hid hs
    clear hs
    go_enter Try.func18, Try.ntmps18
    go_wp2
    go_ret
    exact ⟨ret_bool (by rw [← HS.out]; simp), below_alloc2 _ _ _⟩
  · have hd : (n == n') = false := by simpa using h
    go_enter Try.func18, Try.ntmps18
    go_wp2
    go_ret
    exact ⟨ret_bool (by simp [h]), below_alloc2 _ _ _⟩

end Go.Proofs.Ytpedobpbpomkaaa
