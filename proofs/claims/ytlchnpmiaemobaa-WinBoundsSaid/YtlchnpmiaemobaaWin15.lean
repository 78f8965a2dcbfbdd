/- Layer 13: the statements' helpers: known, does. -/
import Derived.Test.YtlchnpmiaemobaaWin14
set_option linter.unusedSimpArgs false
set_option linter.unusedVariables false
namespace Go.Proofs.Ytlchnpmiaemobaa
open Go.RowKit
set_option maxRecDepth 100000

def oW (g : Nat) (b : Int) (l : List PC) : Ob := fun w S => WinO w S g b l
def oR (g : Nat) (b : Int) (l : List PC) : Ob := fun w S => RefO w S g b l
/-- what a window may hold -/
structure OkL (l : List PC) : Prop where
  ok : okP l
  sum : sumP l ≤ 1114111
theorem OkL.len {l : List PC} (h : OkL l) : l.length ≤ 1114111 := by have := sumP_nonneg l h.ok; have := h.sum; omega
theorem OkL.nil : OkL [] := ⟨fun p h => (by cases h), by simp [sumP]⟩
theorem sumP_filter_le {l : List PC} (h : okP l) (f : PC → Bool) : sumP (l.filter f) ≤ sumP l := by
  have h1 := sumP_parts f l
  have h2 := sumP_nonneg _ (h.filter fun p => !f p)
  omega
theorem OkL.filter {l : List PC} (h : OkL l) (f : PC → Bool) : OkL (l.filter f) := ⟨h.ok.filter f, by have := sumP_filter_le h.ok f; have := h.sum; omega⟩
theorem OkL.add {l : List PC} (h : OkL l) {b : Int} (hb : b ≤ 1048576) (p : PC) : OkL (addL b l p) := ⟨addB_ok h.ok, addL_sum hb h.sum⟩

section
variable {w : World} {ks : List Kq} {g g' : Nat} {b : Int} {l l' : List PC}
theorem w_add (h : One w ks (oW g b l)) (hl : OkL l) (hn : l.length ≤ 1000000) (hb : b ≤ 1048576) (p : PC) : Calls Try.prog 16 #[.pointer (some ⟨g, 0, none⟩), .agg (encP p).toArray] w fun e w' => e = .returned (.bool (addB b l p)) ∧ One w' ks (oW g b (addL b l p)) :=
  h.call fun S hS => (winadd_any S g b l p w hS hb hl.ok hn).mono fun e w' ⟨he, S', k1, k2⟩ => ⟨he, S', k1.held, k2⟩
theorem w_ack (h : One w ks (oW g b l)) (hl : OkL l) (hn : l.length ≤ 1000000) (se a0 a1 a2 : Nat) : Calls Try.prog 14 #[.pointer (some ⟨g, 0, none⟩), .int .u32 se, .agg #[.int .u32 a0, .int .u32 a1, .int .u32 a2]] w fun e w' =>
    e = .returned (.int .i64 ((l.length : Int) - (l.filter fun p => !goneA se a0 a2 p).length)) ∧ One w' ks (oW g b (l.filter fun p => !goneA se a0 a2 p)) :=
  h.call fun S hS => (wack_any S g se a0 a1 a2 b l w hS hl.ok (by have := hl.sum; omega) hn).mono fun e w' ⟨he, k1, k2⟩ => ⟨he, S, k1.held, k2⟩
theorem w_drop (h : One w ks (oW g b l)) (hl : OkL l) (hn : l.length ≤ 1000000) (se : Nat) : Calls Try.prog 15 #[.pointer (some ⟨g, 0, none⟩), .int .u32 se] w fun e w' =>
    e = .returned (.int .i64 ((l.length : Int) - (l.filter fun p => !goneD se p).length)) ∧ One w' ks (oW g b (l.filter fun p => !goneD se p)) :=
  h.call fun S hS => (wdrop_any S g se b l w hS hl.ok (by have := hl.sum; omega) hn).mono fun e w' ⟨he, k1, k2⟩ => ⟨he, S, k1.held, k2⟩
theorem w_in (h : One w ks (oW g b l)) : Calls Try.prog 22 #[.pointer (some ⟨g, 0, none⟩)] w fun e w' => e = .returned (.int .i64 (sumP l)) ∧ w' = w := by
  obtain ⟨S, h1, -⟩ := h.ex
  exact winin_any h1.now
theorem w_room (h : One w ks (oW g b l)) : Calls Try.prog 24 #[.pointer (some ⟨g, 0, none⟩)] w fun e w' => e = .returned (.bool (decide (sumP l < b))) ∧ One w' ks (oW g b l) := by
  refine (h.ask (R := fun e _ => e = .returned (.bool (decide (sumP l < b)))) fun S hS => winroom_any hS).mono ?_
  rintro e w' ⟨he, h1, -⟩
  exact ⟨he, h1⟩
theorem w_pieces (h : One w ks (oW g b l)) (hn : l.length ≤ 1000000) : Calls Try.prog 17 #[.pointer (some ⟨g, 0, none⟩)] w fun e w' => ∃ A c, e = .returned (.slice A l.length c) ∧ OwnR w' w.heap.size 31 encP 8 (.slice A l.length c) l ∧ Below w.heap.size w w' := by
  obtain ⟨S, h1, -⟩ := h.ex
  exact pieces_any h1.now hn
theorem w_new (n : Int) (h1 : 1 ≤ n) (h2 : n ≤ 1048576) (hq : Qs w ks) (hn : ∀ k, w.heap.size ≤ k → apAll k ks) : Calls Try.prog 13 #[.int .i64 n] w fun e w' => e = .returned (.pointer (some ⟨w.heap.size, 0, none⟩)) ∧ One w' ks (oW w.heap.size n []) :=
  (winnew_any n h1 h2 w).mono fun e w' ⟨he, k1, k2⟩ => ⟨he, One.make hq hn k2 k1.held (fun k hk => by subst hk; exact Nat.le_refl _)⟩
end

def kP1 : PC := ⟨1, 0, 0, 0, 0, 0, 1, 60⟩
def kP2 : PC := ⟨1, 0, 0, 1, 0, 0, 2, 60⟩
theorem known_any (w : World) : Calls Try.prog 12 #[] w fun e w' => e = .returned (.bool true) ∧ Below w.heap.size w w' := by
  have HN := Lib.hid (w_new (w := w) 100 (by omega) (by omega) (Qs.zero w) (new_top w))
  have o0 : OkL [] := OkL.nil
  have o1 : OkL [kP1] := ⟨fun p hp => by rw [List.mem_singleton.1 hp]; decide, by decide⟩
  have o2 : OkL [kP1, kP2] := ⟨fun p hp => by
    rcases List.mem_cons.1 hp with rfl | hp
    · decide
    · rw [List.mem_singleton.1 hp]; decide, by decide⟩
  have HO := Lib.hid (And.intro o0 (And.intro o1 o2))
  clear o0 o1 o2
  go_enter Try.func12, Try.ntmps12
  go_wp2_with fail
  refine HN.out.mono ?_
  rintro e w1 ⟨rfl, h1⟩
  have H1 := Lib.hid h1
  clear h1
  go_wp2_with fail
  refine (w_add H1.out HO.out.1 (by decide) (by omega) kP1).mono ?_
  rintro e w2 ⟨rfl, h2⟩
  have H2 := Lib.hid (show One w2 _ (oW w.heap.size 100 [kP1]) from h2)
  rw [show addB 100 [] kP1 = true from by decide]
  clear h2
  go_wp2_with fail
  refine (w_add H2.out HO.out.2.1 (by decide) (by omega) kP2).mono ?_
  rintro e w3 ⟨rfl, h3⟩
  have H3 := Lib.hid (show One w3 _ (oW w.heap.size 100 [kP1, kP2]) from h3)
  rw [show addB 100 [kP1] kP2 = true from by decide]
  clear h3
  go_wp2_with fail
  refine (w_room H3.out).mono ?_
  rintro e w4 ⟨rfl, h4⟩
  have H4 := Lib.hid h4
  rw [show decide (sumP [kP1, kP2] < 100) = false from by decide]
  clear h4
  go_wp2_with fail
  refine (w_ack H4.out HO.out.2.2 (by decide) 1 0 0 1).mono ?_
  rintro e w5 ⟨rfl, h5⟩
  have H5 := Lib.hid (show One w5 _ (oW w.heap.size 100 [kP2]) from h5)
  rw [show ((([kP1, kP2] : List PC).length : Int) - (([kP1, kP2] : List PC).filter fun p => !goneA 1 0 1 p).length) = 1 from by decide]
  clear h5
  go_wp2_with fail
  refine (w_in H5.out).mono ?_
  rintro e w6 ⟨rfl, rfl⟩
  rw [show sumP [kP2] = 60 from by decide]
  go_wp2_with fail
  refine (wnew_none 0 (by omega) _).mono ?_
  rintro e w7 ⟨rfl, rfl⟩
  go_wp2_with fail
  go_ret
  exact ⟨rfl, H5.out.qs.top 0⟩

end Go.Proofs.Ytlchnpmiaemobaa
