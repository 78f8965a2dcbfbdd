/- Layer 13: a call on both. -/
import Derived.Test.YtlchnpmiaemobaaWin15
set_option linter.unusedSimpArgs false
set_option linter.unusedVariables false
namespace Go.Proofs.Ytlchnpmiaemobaa
open Go.RowKit
set_option maxRecDepth 100000

structure OC where
  kd : Nat
  p : PC
def encO (o : OC) : List Value := .int .u8 o.kd :: encP o.p
/-- what a call leaves under way -/
def stepL (b : Int) (l : List PC) (o : OC) : List PC :=
  if o.kd % 6 = 3 ∨ o.kd % 6 = 4 then l.filter fun p => !goneA o.p.se o.p.t0 o.p.t2 p
  else if o.kd % 6 = 5 then l.filter fun p => !goneD o.p.se p
  else addL b l o.p
theorem OkL.step {l : List PC} (h : OkL l) {b : Int} (hb : b ≤ 1048576) (o : OC) : OkL (stepL b l o) := by
  unfold stepL
  split
  · exact h.filter _
  · split
    · exact h.filter _
    · exact h.add hb _
theorem stepL_len (b : Int) (l : List PC) (o : OC) : (stepL b l o).length ≤ l.length + 1 := by
  unfold stepL
  split
  · have := List.length_filter_le (fun p => !goneA o.p.se o.p.t0 o.p.t2 p) l; omega
  · split
    · have := List.length_filter_le (fun p => !goneD o.p.se p) l; omega
    · exact addL_len _ _ _

section
variable {w : World} {ks : List Kq} {g g' : Nat} {b : Int} {l l' : List PC}
theorem r_add {O : Ob} (h : Two w ks O (oR g b l)) (hl : OkL l) (hn : l.length ≤ 1000000) (p : PC) : Calls Try.prog 44 #[.pointer (some ⟨g, 0, none⟩), .agg (encP p).toArray] w fun e w' => e = .returned (.bool (addB b l p)) ∧ Two w' ks O (oR g b (addL b l p)) :=
  (h.swap.call (Q := fun e => e = .returned (.bool (addB b l p))) (O1' := oR g b (addL b l p)) fun S hS => (refadd_any S g b l p w hS hl.ok (by have := hl.sum; omega) hn).mono fun e w' ⟨he, S', k1, k2⟩ => ⟨he, S', k1.held, k2⟩).mono fun e w' ⟨he, k⟩ => ⟨he, k.swap⟩
theorem r_ack {O : Ob} (h : Two w ks O (oR g b l)) (hn : l.length ≤ 1000000) (se a0 a1 a2 : Nat) : Calls Try.prog 42 #[.pointer (some ⟨g, 0, none⟩), .int .u32 se, .agg #[.int .u32 a0, .int .u32 a1, .int .u32 a2]] w fun e w' =>
    e = .returned (.int .i64 ((l.length : Int) - (l.filter fun p => !goneA se a0 a2 p).length)) ∧ Two w' ks O (oR g b (l.filter fun p => !goneA se a0 a2 p)) :=
  (h.swap.call (Q := fun e => e = .returned (.int .i64 ((l.length : Int) - (l.filter fun p => !goneA se a0 a2 p).length))) (O1' := oR g b (l.filter fun p => !goneA se a0 a2 p)) fun S hS => (refack_any S g se a0 a1 a2 b l w hS hn).mono fun e w' ⟨he, S', k1, k2⟩ => ⟨he, S', k1.held, k2⟩).mono fun e w' ⟨he, k⟩ => ⟨he, k.swap⟩
theorem r_drop {O : Ob} (h : Two w ks O (oR g b l)) (hn : l.length ≤ 1000000) (se : Nat) : Calls Try.prog 43 #[.pointer (some ⟨g, 0, none⟩), .int .u32 se] w fun e w' =>
    e = .returned (.int .i64 ((l.length : Int) - (l.filter fun p => !goneD se p).length)) ∧ Two w' ks O (oR g b (l.filter fun p => !goneD se p)) :=
  (h.swap.call (Q := fun e => e = .returned (.int .i64 ((l.length : Int) - (l.filter fun p => !goneD se p).length))) (O1' := oR g b (l.filter fun p => !goneD se p)) fun S hS => (refdrop_any S g se b l w hS hn).mono fun e w' ⟨he, S', k1, k2⟩ => ⟨he, S', k1.held, k2⟩).mono fun e w' ⟨he, k⟩ => ⟨he, k.swap⟩
theorem w2_add {O : Ob} (h : Two w ks (oW g b l) O) (hl : OkL l) (hn : l.length ≤ 1000000) (hb : b ≤ 1048576) (p : PC) : Calls Try.prog 16 #[.pointer (some ⟨g, 0, none⟩), .agg (encP p).toArray] w fun e w' => e = .returned (.bool (addB b l p)) ∧ Two w' ks (oW g b (addL b l p)) O :=
  h.call fun S hS => (winadd_any S g b l p w hS hb hl.ok hn).mono fun e w' ⟨he, S', k1, k2⟩ => ⟨he, S', k1.held, k2⟩
theorem w2_ack {O : Ob} (h : Two w ks (oW g b l) O) (hl : OkL l) (hn : l.length ≤ 1000000) (se a0 a1 a2 : Nat) : Calls Try.prog 14 #[.pointer (some ⟨g, 0, none⟩), .int .u32 se, .agg #[.int .u32 a0, .int .u32 a1, .int .u32 a2]] w fun e w' =>
    e = .returned (.int .i64 ((l.length : Int) - (l.filter fun p => !goneA se a0 a2 p).length)) ∧ Two w' ks (oW g b (l.filter fun p => !goneA se a0 a2 p)) O :=
  h.call fun S hS => (wack_any S g se a0 a1 a2 b l w hS hl.ok (by have := hl.sum; omega) hn).mono fun e w' ⟨he, k1, k2⟩ => ⟨he, S, k1.held, k2⟩
theorem w2_drop {O : Ob} (h : Two w ks (oW g b l) O) (hl : OkL l) (hn : l.length ≤ 1000000) (se : Nat) : Calls Try.prog 15 #[.pointer (some ⟨g, 0, none⟩), .int .u32 se] w fun e w' =>
    e = .returned (.int .i64 ((l.length : Int) - (l.filter fun p => !goneD se p).length)) ∧ Two w' ks (oW g b (l.filter fun p => !goneD se p)) O :=
  h.call fun S hS => (wdrop_any S g se b l w hS hl.ok (by have := hl.sum; omega) hn).mono fun e w' ⟨he, k1, k2⟩ => ⟨he, S, k1.held, k2⟩
theorem Two.drew {w : World} {ks : List Kq} {O1 O2 : Ob} (h : Two w ks O1 O2) : Two w.drew ks O1 O2 := by
  obtain ⟨S, R, h1, h2, h3, h4⟩ := h.ex
  have f : ∀ S : Nat → Prop, Held w S (fun w => True) → True := fun _ _ => trivial
  exact ⟨⟨S, R, ⟨h1.low, fun w' fw => h1.go w' ⟨fw.os, fw.tape, fw.output, fw.size, fw.block⟩⟩, ⟨h2.low, fun w' fw => h2.go w' ⟨fw.os, fw.tape, fw.output, fw.size, fw.block⟩⟩, h3, h4⟩, h.qs.drew, h.new⟩
end

set_option maxHeartbeats 4000000 in
theorem does_3 (w : World) (ks : List Kq) (g g' : Nat) (b : Int) (l : List PC) (kd se f0 f1 f2 t0 t1 t2 : Nat) (pn : Int) (h : Two w ks (oW g b l) (oR g' b l)) (hl : OkL l) (hn : l.length ≤ 1000000) (hb : b ≤ 1048576) (hk : kd ≤ 255) (e3 : ((kd : Int) % 6 == 3) = true) :
    Calls Try.prog 21 #[.pointer (some ⟨g, 0, none⟩), .pointer (some ⟨g', 0, none⟩), .agg #[.int .u8 kd, .int .u32 se, .int .u32 f0, .int .u32 f1, .int .u32 f2, .int .u32 t0, .int .u32 t1, .int .u32 t2, .int .i64 pn]] w fun e w' => e = .returned (.bool true) ∧ Two w' ks (oW g b (l.filter fun p => !goneA se t0 t2 p)) (oR g' b (l.filter fun p => !goneA se t0 t2 p)) := by
  have H0 := Lib.hid (h.box #[.int .u8 kd, .int .u32 se, .int .u32 f0, .int .u32 f1, .int .u32 f2, .int .u32 t0, .int .u32 t1, .int .u32 t2, .int .i64 pn] 33)
  have HL := Lib.hid hl
  clear h hl
  have Bd0 := H0.out.qs.blk 0
  have d0 : (w.alloc (.cells #[.int .u8 kd, .int .u32 se, .int .u32 f0, .int .u32 f1, .int .u32 f2, .int .u32 t0, .int .u32 t1, .int .u32 t2, .int .i64 pn] 33) : World).cell? ⟨w.heap.size, 1, none⟩ = some (.int .u32 se) ∧ (w.alloc (.cells #[.int .u8 kd, .int .u32 se, .int .u32 f0, .int .u32 f1, .int .u32 f2, .int .u32 t0, .int .u32 t1, .int .u32 t2, .int .i64 pn] 33) : World).cell? ⟨w.heap.size, 2, none⟩ = some (.int .u32 f0) ∧ (w.alloc (.cells #[.int .u8 kd, .int .u32 se, .int .u32 f0, .int .u32 f1, .int .u32 f2, .int .u32 t0, .int .u32 t1, .int .u32 t2, .int .i64 pn] 33) : World).cell? ⟨w.heap.size, 3, none⟩ = some (.int .u32 f1) ∧ (w.alloc (.cells #[.int .u8 kd, .int .u32 se, .int .u32 f0, .int .u32 f1, .int .u32 f2, .int .u32 t0, .int .u32 t1, .int .u32 t2, .int .i64 pn] 33) : World).cell? ⟨w.heap.size, 4, none⟩ = some (.int .u32 f2) ∧ (w.alloc (.cells #[.int .u8 kd, .int .u32 se, .int .u32 f0, .int .u32 f1, .int .u32 f2, .int .u32 t0, .int .u32 t1, .int .u32 t2, .int .i64 pn] 33) : World).cell? ⟨w.heap.size, 5, none⟩ = some (.int .u32 t0) ∧ (w.alloc (.cells #[.int .u8 kd, .int .u32 se, .int .u32 f0, .int .u32 f1, .int .u32 f2, .int .u32 t0, .int .u32 t1, .int .u32 t2, .int .i64 pn] 33) : World).cell? ⟨w.heap.size, 6, none⟩ = some (.int .u32 t1) ∧ (w.alloc (.cells #[.int .u8 kd, .int .u32 se, .int .u32 f0, .int .u32 f1, .int .u32 f2, .int .u32 t0, .int .u32 t1, .int .u32 t2, .int .i64 pn] 33) : World).cell? ⟨w.heap.size, 7, none⟩ = some (.int .u32 t2) ∧ (w.alloc (.cells #[.int .u8 kd, .int .u32 se, .int .u32 f0, .int .u32 f1, .int .u32 f2, .int .u32 t0, .int .u32 t1, .int .u32 t2, .int .i64 pn] 33) : World).cell? ⟨w.heap.size, 8, none⟩ = some (.int .i64 pn) := ⟨(Bd0).cell 1, (Bd0).cell 2, (Bd0).cell 3, (Bd0).cell 4, (Bd0).cell 5, (Bd0).cell 6, (Bd0).cell 7, (Bd0).cell 8⟩
  have ndr : ∀ (W : World) (a : Addr), W.drew.cell? a = W.cell? a := fun _ _ => rfl
  clear Bd0
  go_enter Try.func21, Try.ntmps21
  go_wp2_with fail
  go_region_held3 (fun w' => w'.cell? ⟨w.heap.size, 1, none⟩ = some (.int .u32 se) ∧ w'.cell? ⟨w.heap.size, 2, none⟩ = some (.int .u32 f0) ∧ w'.cell? ⟨w.heap.size, 3, none⟩ = some (.int .u32 f1) ∧ w'.cell? ⟨w.heap.size, 4, none⟩ = some (.int .u32 f2) ∧ w'.cell? ⟨w.heap.size, 5, none⟩ = some (.int .u32 t0) ∧ w'.cell? ⟨w.heap.size, 6, none⟩ = some (.int .u32 t1) ∧ w'.cell? ⟨w.heap.size, 7, none⟩ = some (.int .u32 t2) ∧ w'.cell? ⟨w.heap.size, 8, none⟩ = some (.int .i64 pn)) (first | with_reducible exact d0 | with_reducible exact d1 | with_reducible exact d2 | (simp only [ndr]; with_reducible exact d0) | (simp only [ndr]; with_reducible exact d1) | (simp only [ndr]; with_reducible exact d2))
    (first
      | (go_at_call 14; refine (w2_ack H0.out.drew HL.out hn se t0 t1 t2).mono ?_; rintro e w1 ⟨rfl, h1⟩; have H1 := Lib.hid h1; have Bd1 := h1.qs.blk 0; have d1 : (w1 : World).cell? ⟨w.heap.size, 1, none⟩ = some (.int .u32 se) ∧ (w1 : World).cell? ⟨w.heap.size, 2, none⟩ = some (.int .u32 f0) ∧ (w1 : World).cell? ⟨w.heap.size, 3, none⟩ = some (.int .u32 f1) ∧ (w1 : World).cell? ⟨w.heap.size, 4, none⟩ = some (.int .u32 f2) ∧ (w1 : World).cell? ⟨w.heap.size, 5, none⟩ = some (.int .u32 t0) ∧ (w1 : World).cell? ⟨w.heap.size, 6, none⟩ = some (.int .u32 t1) ∧ (w1 : World).cell? ⟨w.heap.size, 7, none⟩ = some (.int .u32 t2) ∧ (w1 : World).cell? ⟨w.heap.size, 8, none⟩ = some (.int .i64 pn) := ⟨(Bd1).cell 1, (Bd1).cell 2, (Bd1).cell 3, (Bd1).cell 4, (Bd1).cell 5, (Bd1).cell 6, (Bd1).cell 7, (Bd1).cell 8⟩; clear h1 Bd1)
      | (go_at_call 42; refine (r_ack H1.out hn se t0 t1 t2).mono ?_; rintro e w2 ⟨rfl, h2⟩; have H2 := Lib.hid h2; have Bd2 := h2.qs.blk 0; have d2 : (w2 : World).cell? ⟨w.heap.size, 1, none⟩ = some (.int .u32 se) ∧ (w2 : World).cell? ⟨w.heap.size, 2, none⟩ = some (.int .u32 f0) ∧ (w2 : World).cell? ⟨w.heap.size, 3, none⟩ = some (.int .u32 f1) ∧ (w2 : World).cell? ⟨w.heap.size, 4, none⟩ = some (.int .u32 f2) ∧ (w2 : World).cell? ⟨w.heap.size, 5, none⟩ = some (.int .u32 t0) ∧ (w2 : World).cell? ⟨w.heap.size, 6, none⟩ = some (.int .u32 t1) ∧ (w2 : World).cell? ⟨w.heap.size, 7, none⟩ = some (.int .u32 t2) ∧ (w2 : World).cell? ⟨w.heap.size, 8, none⟩ = some (.int .i64 pn) := ⟨(Bd2).cell 1, (Bd2).cell 2, (Bd2).cell 3, (Bd2).cell 4, (Bd2).cell 5, (Bd2).cell 6, (Bd2).cell 7, (Bd2).cell 8⟩; clear h2 Bd2))
  all_goals
    go_wp2_with fail
    go_ret
    first | exact ⟨by simp, H2.out.pop⟩ | exact ⟨rfl, H2.out.pop⟩

set_option maxHeartbeats 4000000 in
theorem does_4 (w : World) (ks : List Kq) (g g' : Nat) (b : Int) (l : List PC) (kd se f0 f1 f2 t0 t1 t2 : Nat) (pn : Int) (h : Two w ks (oW g b l) (oR g' b l)) (hl : OkL l) (hn : l.length ≤ 1000000) (hb : b ≤ 1048576) (hk : kd ≤ 255) (e3 : ((kd : Int) % 6 == 3) = false) (e4 : ((kd : Int) % 6 == 4) = true) :
    Calls Try.prog 21 #[.pointer (some ⟨g, 0, none⟩), .pointer (some ⟨g', 0, none⟩), .agg #[.int .u8 kd, .int .u32 se, .int .u32 f0, .int .u32 f1, .int .u32 f2, .int .u32 t0, .int .u32 t1, .int .u32 t2, .int .i64 pn]] w fun e w' => e = .returned (.bool true) ∧ Two w' ks (oW g b (l.filter fun p => !goneA se t0 t2 p)) (oR g' b (l.filter fun p => !goneA se t0 t2 p)) := by
  have H0 := Lib.hid (h.box #[.int .u8 kd, .int .u32 se, .int .u32 f0, .int .u32 f1, .int .u32 f2, .int .u32 t0, .int .u32 t1, .int .u32 t2, .int .i64 pn] 33)
  have HL := Lib.hid hl
  clear h hl
  have Bd0 := H0.out.qs.blk 0
  have d0 : (w.alloc (.cells #[.int .u8 kd, .int .u32 se, .int .u32 f0, .int .u32 f1, .int .u32 f2, .int .u32 t0, .int .u32 t1, .int .u32 t2, .int .i64 pn] 33) : World).cell? ⟨w.heap.size, 1, none⟩ = some (.int .u32 se) ∧ (w.alloc (.cells #[.int .u8 kd, .int .u32 se, .int .u32 f0, .int .u32 f1, .int .u32 f2, .int .u32 t0, .int .u32 t1, .int .u32 t2, .int .i64 pn] 33) : World).cell? ⟨w.heap.size, 2, none⟩ = some (.int .u32 f0) ∧ (w.alloc (.cells #[.int .u8 kd, .int .u32 se, .int .u32 f0, .int .u32 f1, .int .u32 f2, .int .u32 t0, .int .u32 t1, .int .u32 t2, .int .i64 pn] 33) : World).cell? ⟨w.heap.size, 3, none⟩ = some (.int .u32 f1) ∧ (w.alloc (.cells #[.int .u8 kd, .int .u32 se, .int .u32 f0, .int .u32 f1, .int .u32 f2, .int .u32 t0, .int .u32 t1, .int .u32 t2, .int .i64 pn] 33) : World).cell? ⟨w.heap.size, 4, none⟩ = some (.int .u32 f2) ∧ (w.alloc (.cells #[.int .u8 kd, .int .u32 se, .int .u32 f0, .int .u32 f1, .int .u32 f2, .int .u32 t0, .int .u32 t1, .int .u32 t2, .int .i64 pn] 33) : World).cell? ⟨w.heap.size, 5, none⟩ = some (.int .u32 t0) ∧ (w.alloc (.cells #[.int .u8 kd, .int .u32 se, .int .u32 f0, .int .u32 f1, .int .u32 f2, .int .u32 t0, .int .u32 t1, .int .u32 t2, .int .i64 pn] 33) : World).cell? ⟨w.heap.size, 6, none⟩ = some (.int .u32 t1) ∧ (w.alloc (.cells #[.int .u8 kd, .int .u32 se, .int .u32 f0, .int .u32 f1, .int .u32 f2, .int .u32 t0, .int .u32 t1, .int .u32 t2, .int .i64 pn] 33) : World).cell? ⟨w.heap.size, 7, none⟩ = some (.int .u32 t2) ∧ (w.alloc (.cells #[.int .u8 kd, .int .u32 se, .int .u32 f0, .int .u32 f1, .int .u32 f2, .int .u32 t0, .int .u32 t1, .int .u32 t2, .int .i64 pn] 33) : World).cell? ⟨w.heap.size, 8, none⟩ = some (.int .i64 pn) := ⟨(Bd0).cell 1, (Bd0).cell 2, (Bd0).cell 3, (Bd0).cell 4, (Bd0).cell 5, (Bd0).cell 6, (Bd0).cell 7, (Bd0).cell 8⟩
  have ndr : ∀ (W : World) (a : Addr), W.drew.cell? a = W.cell? a := fun _ _ => rfl
  clear Bd0
  go_enter Try.func21, Try.ntmps21
  go_wp2_with fail
  go_region_held3 (fun w' => w'.cell? ⟨w.heap.size, 1, none⟩ = some (.int .u32 se) ∧ w'.cell? ⟨w.heap.size, 2, none⟩ = some (.int .u32 f0) ∧ w'.cell? ⟨w.heap.size, 3, none⟩ = some (.int .u32 f1) ∧ w'.cell? ⟨w.heap.size, 4, none⟩ = some (.int .u32 f2) ∧ w'.cell? ⟨w.heap.size, 5, none⟩ = some (.int .u32 t0) ∧ w'.cell? ⟨w.heap.size, 6, none⟩ = some (.int .u32 t1) ∧ w'.cell? ⟨w.heap.size, 7, none⟩ = some (.int .u32 t2) ∧ w'.cell? ⟨w.heap.size, 8, none⟩ = some (.int .i64 pn)) (first | with_reducible exact d0 | with_reducible exact d1 | with_reducible exact d2 | (simp only [ndr]; with_reducible exact d0) | (simp only [ndr]; with_reducible exact d1) | (simp only [ndr]; with_reducible exact d2))
    (first
      | (go_at_call 14; refine (w2_ack H0.out.drew HL.out hn se t0 t1 t2).mono ?_; rintro e w1 ⟨rfl, h1⟩; have H1 := Lib.hid h1; have Bd1 := h1.qs.blk 0; have d1 : (w1 : World).cell? ⟨w.heap.size, 1, none⟩ = some (.int .u32 se) ∧ (w1 : World).cell? ⟨w.heap.size, 2, none⟩ = some (.int .u32 f0) ∧ (w1 : World).cell? ⟨w.heap.size, 3, none⟩ = some (.int .u32 f1) ∧ (w1 : World).cell? ⟨w.heap.size, 4, none⟩ = some (.int .u32 f2) ∧ (w1 : World).cell? ⟨w.heap.size, 5, none⟩ = some (.int .u32 t0) ∧ (w1 : World).cell? ⟨w.heap.size, 6, none⟩ = some (.int .u32 t1) ∧ (w1 : World).cell? ⟨w.heap.size, 7, none⟩ = some (.int .u32 t2) ∧ (w1 : World).cell? ⟨w.heap.size, 8, none⟩ = some (.int .i64 pn) := ⟨(Bd1).cell 1, (Bd1).cell 2, (Bd1).cell 3, (Bd1).cell 4, (Bd1).cell 5, (Bd1).cell 6, (Bd1).cell 7, (Bd1).cell 8⟩; clear h1 Bd1)
      | (go_at_call 42; refine (r_ack H1.out hn se t0 t1 t2).mono ?_; rintro e w2 ⟨rfl, h2⟩; have H2 := Lib.hid h2; have Bd2 := h2.qs.blk 0; have d2 : (w2 : World).cell? ⟨w.heap.size, 1, none⟩ = some (.int .u32 se) ∧ (w2 : World).cell? ⟨w.heap.size, 2, none⟩ = some (.int .u32 f0) ∧ (w2 : World).cell? ⟨w.heap.size, 3, none⟩ = some (.int .u32 f1) ∧ (w2 : World).cell? ⟨w.heap.size, 4, none⟩ = some (.int .u32 f2) ∧ (w2 : World).cell? ⟨w.heap.size, 5, none⟩ = some (.int .u32 t0) ∧ (w2 : World).cell? ⟨w.heap.size, 6, none⟩ = some (.int .u32 t1) ∧ (w2 : World).cell? ⟨w.heap.size, 7, none⟩ = some (.int .u32 t2) ∧ (w2 : World).cell? ⟨w.heap.size, 8, none⟩ = some (.int .i64 pn) := ⟨(Bd2).cell 1, (Bd2).cell 2, (Bd2).cell 3, (Bd2).cell 4, (Bd2).cell 5, (Bd2).cell 6, (Bd2).cell 7, (Bd2).cell 8⟩; clear h2 Bd2))
  all_goals
    go_wp2_with fail
    go_ret
    first | exact ⟨by simp, H2.out.pop⟩ | exact ⟨rfl, H2.out.pop⟩

set_option maxHeartbeats 4000000 in
theorem does_5 (w : World) (ks : List Kq) (g g' : Nat) (b : Int) (l : List PC) (kd se f0 f1 f2 t0 t1 t2 : Nat) (pn : Int) (h : Two w ks (oW g b l) (oR g' b l)) (hl : OkL l) (hn : l.length ≤ 1000000) (hb : b ≤ 1048576) (hk : kd ≤ 255) (e3 : ((kd : Int) % 6 == 3) = false) (e4 : ((kd : Int) % 6 == 4) = false) (e5 : ((kd : Int) % 6 == 5) = true) :
    Calls Try.prog 21 #[.pointer (some ⟨g, 0, none⟩), .pointer (some ⟨g', 0, none⟩), .agg #[.int .u8 kd, .int .u32 se, .int .u32 f0, .int .u32 f1, .int .u32 f2, .int .u32 t0, .int .u32 t1, .int .u32 t2, .int .i64 pn]] w fun e w' => e = .returned (.bool true) ∧ Two w' ks (oW g b (l.filter fun p => !goneD se p)) (oR g' b (l.filter fun p => !goneD se p)) := by
  have H0 := Lib.hid (h.box #[.int .u8 kd, .int .u32 se, .int .u32 f0, .int .u32 f1, .int .u32 f2, .int .u32 t0, .int .u32 t1, .int .u32 t2, .int .i64 pn] 33)
  have HL := Lib.hid hl
  clear h hl
  have Bd0 := H0.out.qs.blk 0
  have d0 : (w.alloc (.cells #[.int .u8 kd, .int .u32 se, .int .u32 f0, .int .u32 f1, .int .u32 f2, .int .u32 t0, .int .u32 t1, .int .u32 t2, .int .i64 pn] 33) : World).cell? ⟨w.heap.size, 1, none⟩ = some (.int .u32 se) ∧ (w.alloc (.cells #[.int .u8 kd, .int .u32 se, .int .u32 f0, .int .u32 f1, .int .u32 f2, .int .u32 t0, .int .u32 t1, .int .u32 t2, .int .i64 pn] 33) : World).cell? ⟨w.heap.size, 2, none⟩ = some (.int .u32 f0) ∧ (w.alloc (.cells #[.int .u8 kd, .int .u32 se, .int .u32 f0, .int .u32 f1, .int .u32 f2, .int .u32 t0, .int .u32 t1, .int .u32 t2, .int .i64 pn] 33) : World).cell? ⟨w.heap.size, 3, none⟩ = some (.int .u32 f1) ∧ (w.alloc (.cells #[.int .u8 kd, .int .u32 se, .int .u32 f0, .int .u32 f1, .int .u32 f2, .int .u32 t0, .int .u32 t1, .int .u32 t2, .int .i64 pn] 33) : World).cell? ⟨w.heap.size, 4, none⟩ = some (.int .u32 f2) ∧ (w.alloc (.cells #[.int .u8 kd, .int .u32 se, .int .u32 f0, .int .u32 f1, .int .u32 f2, .int .u32 t0, .int .u32 t1, .int .u32 t2, .int .i64 pn] 33) : World).cell? ⟨w.heap.size, 5, none⟩ = some (.int .u32 t0) ∧ (w.alloc (.cells #[.int .u8 kd, .int .u32 se, .int .u32 f0, .int .u32 f1, .int .u32 f2, .int .u32 t0, .int .u32 t1, .int .u32 t2, .int .i64 pn] 33) : World).cell? ⟨w.heap.size, 6, none⟩ = some (.int .u32 t1) ∧ (w.alloc (.cells #[.int .u8 kd, .int .u32 se, .int .u32 f0, .int .u32 f1, .int .u32 f2, .int .u32 t0, .int .u32 t1, .int .u32 t2, .int .i64 pn] 33) : World).cell? ⟨w.heap.size, 7, none⟩ = some (.int .u32 t2) ∧ (w.alloc (.cells #[.int .u8 kd, .int .u32 se, .int .u32 f0, .int .u32 f1, .int .u32 f2, .int .u32 t0, .int .u32 t1, .int .u32 t2, .int .i64 pn] 33) : World).cell? ⟨w.heap.size, 8, none⟩ = some (.int .i64 pn) := ⟨(Bd0).cell 1, (Bd0).cell 2, (Bd0).cell 3, (Bd0).cell 4, (Bd0).cell 5, (Bd0).cell 6, (Bd0).cell 7, (Bd0).cell 8⟩
  have ndr : ∀ (W : World) (a : Addr), W.drew.cell? a = W.cell? a := fun _ _ => rfl
  clear Bd0
  go_enter Try.func21, Try.ntmps21
  go_wp2_with fail
  go_region_held3 (fun w' => w'.cell? ⟨w.heap.size, 1, none⟩ = some (.int .u32 se) ∧ w'.cell? ⟨w.heap.size, 2, none⟩ = some (.int .u32 f0) ∧ w'.cell? ⟨w.heap.size, 3, none⟩ = some (.int .u32 f1) ∧ w'.cell? ⟨w.heap.size, 4, none⟩ = some (.int .u32 f2) ∧ w'.cell? ⟨w.heap.size, 5, none⟩ = some (.int .u32 t0) ∧ w'.cell? ⟨w.heap.size, 6, none⟩ = some (.int .u32 t1) ∧ w'.cell? ⟨w.heap.size, 7, none⟩ = some (.int .u32 t2) ∧ w'.cell? ⟨w.heap.size, 8, none⟩ = some (.int .i64 pn)) (first | with_reducible exact d0 | with_reducible exact d1 | with_reducible exact d2 | (simp only [ndr]; with_reducible exact d0) | (simp only [ndr]; with_reducible exact d1) | (simp only [ndr]; with_reducible exact d2))
    (first
      | (go_at_call 15; refine (w2_drop H0.out.drew HL.out hn se).mono ?_; rintro e w1 ⟨rfl, h1⟩; have H1 := Lib.hid h1; have Bd1 := h1.qs.blk 0; have d1 : (w1 : World).cell? ⟨w.heap.size, 1, none⟩ = some (.int .u32 se) ∧ (w1 : World).cell? ⟨w.heap.size, 2, none⟩ = some (.int .u32 f0) ∧ (w1 : World).cell? ⟨w.heap.size, 3, none⟩ = some (.int .u32 f1) ∧ (w1 : World).cell? ⟨w.heap.size, 4, none⟩ = some (.int .u32 f2) ∧ (w1 : World).cell? ⟨w.heap.size, 5, none⟩ = some (.int .u32 t0) ∧ (w1 : World).cell? ⟨w.heap.size, 6, none⟩ = some (.int .u32 t1) ∧ (w1 : World).cell? ⟨w.heap.size, 7, none⟩ = some (.int .u32 t2) ∧ (w1 : World).cell? ⟨w.heap.size, 8, none⟩ = some (.int .i64 pn) := ⟨(Bd1).cell 1, (Bd1).cell 2, (Bd1).cell 3, (Bd1).cell 4, (Bd1).cell 5, (Bd1).cell 6, (Bd1).cell 7, (Bd1).cell 8⟩; clear h1 Bd1)
      | (go_at_call 43; refine (r_drop H1.out hn se).mono ?_; rintro e w2 ⟨rfl, h2⟩; have H2 := Lib.hid h2; have Bd2 := h2.qs.blk 0; have d2 : (w2 : World).cell? ⟨w.heap.size, 1, none⟩ = some (.int .u32 se) ∧ (w2 : World).cell? ⟨w.heap.size, 2, none⟩ = some (.int .u32 f0) ∧ (w2 : World).cell? ⟨w.heap.size, 3, none⟩ = some (.int .u32 f1) ∧ (w2 : World).cell? ⟨w.heap.size, 4, none⟩ = some (.int .u32 f2) ∧ (w2 : World).cell? ⟨w.heap.size, 5, none⟩ = some (.int .u32 t0) ∧ (w2 : World).cell? ⟨w.heap.size, 6, none⟩ = some (.int .u32 t1) ∧ (w2 : World).cell? ⟨w.heap.size, 7, none⟩ = some (.int .u32 t2) ∧ (w2 : World).cell? ⟨w.heap.size, 8, none⟩ = some (.int .i64 pn) := ⟨(Bd2).cell 1, (Bd2).cell 2, (Bd2).cell 3, (Bd2).cell 4, (Bd2).cell 5, (Bd2).cell 6, (Bd2).cell 7, (Bd2).cell 8⟩; clear h2 Bd2))
  all_goals
    go_wp2_with fail
    go_ret
    first | exact ⟨by simp, H2.out.pop⟩ | exact ⟨rfl, H2.out.pop⟩

set_option maxHeartbeats 4000000 in
theorem does_0 (w : World) (ks : List Kq) (g g' : Nat) (b : Int) (l : List PC) (kd se f0 f1 f2 t0 t1 t2 : Nat) (pn : Int) (h : Two w ks (oW g b l) (oR g' b l)) (hl : OkL l) (hn : l.length ≤ 1000000) (hb : b ≤ 1048576) (hk : kd ≤ 255) (e3 : ((kd : Int) % 6 == 3) = false) (e4 : ((kd : Int) % 6 == 4) = false) (e5 : ((kd : Int) % 6 == 5) = false) :
    Calls Try.prog 21 #[.pointer (some ⟨g, 0, none⟩), .pointer (some ⟨g', 0, none⟩), .agg #[.int .u8 kd, .int .u32 se, .int .u32 f0, .int .u32 f1, .int .u32 f2, .int .u32 t0, .int .u32 t1, .int .u32 t2, .int .i64 pn]] w fun e w' => e = .returned (.bool true) ∧ Two w' ks (oW g b (addL b l ⟨se, f0, f1, f2, t0, t1, t2, pn⟩)) (oR g' b (addL b l ⟨se, f0, f1, f2, t0, t1, t2, pn⟩)) := by
  have H0 := Lib.hid (h.box #[.int .u8 kd, .int .u32 se, .int .u32 f0, .int .u32 f1, .int .u32 f2, .int .u32 t0, .int .u32 t1, .int .u32 t2, .int .i64 pn] 33)
  have HL := Lib.hid hl
  clear h hl
  have Bd0 := H0.out.qs.blk 0
  have d0 : (w.alloc (.cells #[.int .u8 kd, .int .u32 se, .int .u32 f0, .int .u32 f1, .int .u32 f2, .int .u32 t0, .int .u32 t1, .int .u32 t2, .int .i64 pn] 33) : World).cell? ⟨w.heap.size, 1, none⟩ = some (.int .u32 se) ∧ (w.alloc (.cells #[.int .u8 kd, .int .u32 se, .int .u32 f0, .int .u32 f1, .int .u32 f2, .int .u32 t0, .int .u32 t1, .int .u32 t2, .int .i64 pn] 33) : World).cell? ⟨w.heap.size, 2, none⟩ = some (.int .u32 f0) ∧ (w.alloc (.cells #[.int .u8 kd, .int .u32 se, .int .u32 f0, .int .u32 f1, .int .u32 f2, .int .u32 t0, .int .u32 t1, .int .u32 t2, .int .i64 pn] 33) : World).cell? ⟨w.heap.size, 3, none⟩ = some (.int .u32 f1) ∧ (w.alloc (.cells #[.int .u8 kd, .int .u32 se, .int .u32 f0, .int .u32 f1, .int .u32 f2, .int .u32 t0, .int .u32 t1, .int .u32 t2, .int .i64 pn] 33) : World).cell? ⟨w.heap.size, 4, none⟩ = some (.int .u32 f2) ∧ (w.alloc (.cells #[.int .u8 kd, .int .u32 se, .int .u32 f0, .int .u32 f1, .int .u32 f2, .int .u32 t0, .int .u32 t1, .int .u32 t2, .int .i64 pn] 33) : World).cell? ⟨w.heap.size, 5, none⟩ = some (.int .u32 t0) ∧ (w.alloc (.cells #[.int .u8 kd, .int .u32 se, .int .u32 f0, .int .u32 f1, .int .u32 f2, .int .u32 t0, .int .u32 t1, .int .u32 t2, .int .i64 pn] 33) : World).cell? ⟨w.heap.size, 6, none⟩ = some (.int .u32 t1) ∧ (w.alloc (.cells #[.int .u8 kd, .int .u32 se, .int .u32 f0, .int .u32 f1, .int .u32 f2, .int .u32 t0, .int .u32 t1, .int .u32 t2, .int .i64 pn] 33) : World).cell? ⟨w.heap.size, 7, none⟩ = some (.int .u32 t2) ∧ (w.alloc (.cells #[.int .u8 kd, .int .u32 se, .int .u32 f0, .int .u32 f1, .int .u32 f2, .int .u32 t0, .int .u32 t1, .int .u32 t2, .int .i64 pn] 33) : World).cell? ⟨w.heap.size, 8, none⟩ = some (.int .i64 pn) := ⟨(Bd0).cell 1, (Bd0).cell 2, (Bd0).cell 3, (Bd0).cell 4, (Bd0).cell 5, (Bd0).cell 6, (Bd0).cell 7, (Bd0).cell 8⟩
  have ndr : ∀ (W : World) (a : Addr), W.drew.cell? a = W.cell? a := fun _ _ => rfl
  clear Bd0
  go_enter Try.func21, Try.ntmps21
  go_wp2_with fail
  go_region_held3 (fun w' => w'.cell? ⟨w.heap.size, 1, none⟩ = some (.int .u32 se) ∧ w'.cell? ⟨w.heap.size, 2, none⟩ = some (.int .u32 f0) ∧ w'.cell? ⟨w.heap.size, 3, none⟩ = some (.int .u32 f1) ∧ w'.cell? ⟨w.heap.size, 4, none⟩ = some (.int .u32 f2) ∧ w'.cell? ⟨w.heap.size, 5, none⟩ = some (.int .u32 t0) ∧ w'.cell? ⟨w.heap.size, 6, none⟩ = some (.int .u32 t1) ∧ w'.cell? ⟨w.heap.size, 7, none⟩ = some (.int .u32 t2) ∧ w'.cell? ⟨w.heap.size, 8, none⟩ = some (.int .i64 pn)) (first | with_reducible exact d0 | with_reducible exact d1 | with_reducible exact d2 | (simp only [ndr]; with_reducible exact d0) | (simp only [ndr]; with_reducible exact d1) | (simp only [ndr]; with_reducible exact d2))
    (first
      | (go_at_call 16; refine (w2_add H0.out.drew HL.out hn hb ⟨se, f0, f1, f2, t0, t1, t2, pn⟩).mono ?_; rintro e w1 ⟨rfl, h1⟩; have H1 := Lib.hid h1; have Bd1 := h1.qs.blk 0; have d1 : (w1 : World).cell? ⟨w.heap.size, 1, none⟩ = some (.int .u32 se) ∧ (w1 : World).cell? ⟨w.heap.size, 2, none⟩ = some (.int .u32 f0) ∧ (w1 : World).cell? ⟨w.heap.size, 3, none⟩ = some (.int .u32 f1) ∧ (w1 : World).cell? ⟨w.heap.size, 4, none⟩ = some (.int .u32 f2) ∧ (w1 : World).cell? ⟨w.heap.size, 5, none⟩ = some (.int .u32 t0) ∧ (w1 : World).cell? ⟨w.heap.size, 6, none⟩ = some (.int .u32 t1) ∧ (w1 : World).cell? ⟨w.heap.size, 7, none⟩ = some (.int .u32 t2) ∧ (w1 : World).cell? ⟨w.heap.size, 8, none⟩ = some (.int .i64 pn) := ⟨(Bd1).cell 1, (Bd1).cell 2, (Bd1).cell 3, (Bd1).cell 4, (Bd1).cell 5, (Bd1).cell 6, (Bd1).cell 7, (Bd1).cell 8⟩; clear h1 Bd1)
      | (go_at_call 44; refine (r_add H1.out HL.out hn ⟨se, f0, f1, f2, t0, t1, t2, pn⟩).mono ?_; rintro e w2 ⟨rfl, h2⟩; have H2 := Lib.hid h2; have Bd2 := h2.qs.blk 0; have d2 : (w2 : World).cell? ⟨w.heap.size, 1, none⟩ = some (.int .u32 se) ∧ (w2 : World).cell? ⟨w.heap.size, 2, none⟩ = some (.int .u32 f0) ∧ (w2 : World).cell? ⟨w.heap.size, 3, none⟩ = some (.int .u32 f1) ∧ (w2 : World).cell? ⟨w.heap.size, 4, none⟩ = some (.int .u32 f2) ∧ (w2 : World).cell? ⟨w.heap.size, 5, none⟩ = some (.int .u32 t0) ∧ (w2 : World).cell? ⟨w.heap.size, 6, none⟩ = some (.int .u32 t1) ∧ (w2 : World).cell? ⟨w.heap.size, 7, none⟩ = some (.int .u32 t2) ∧ (w2 : World).cell? ⟨w.heap.size, 8, none⟩ = some (.int .i64 pn) := ⟨(Bd2).cell 1, (Bd2).cell 2, (Bd2).cell 3, (Bd2).cell 4, (Bd2).cell 5, (Bd2).cell 6, (Bd2).cell 7, (Bd2).cell 8⟩; clear h2 Bd2))
  all_goals
    go_wp2_with fail
    go_ret
    first | exact ⟨by simp, H2.out.pop⟩ | exact ⟨rfl, H2.out.pop⟩

theorem does_any (w : World) (ks : List Kq) (g g' : Nat) (b : Int) (l : List PC) (o : OC) (h : Two w ks (oW g b l) (oR g' b l)) (hl : OkL l) (hn : l.length ≤ 1000000) (hb : b ≤ 1048576) (hk : o.kd ≤ 255) :
    Calls Try.prog 21 #[.pointer (some ⟨g, 0, none⟩), .pointer (some ⟨g', 0, none⟩), .agg (encO o).toArray] w fun e w' => e = .returned (.bool true) ∧ Two w' ks (oW g b (stepL b l o)) (oR g' b (stepL b l o)) := by
  obtain ⟨kd, se, f0, f1, f2, t0, t1, t2, pn⟩ := o
  have hkm : ∀ m : Nat, ((kd : Int) % 6 == (m : Int)) = decide (kd % 6 = m) := fun m => by
    by_cases h : kd % 6 = m
    · rw [decide_eq_true h]; exact beq_iff_eq.2 (by omega)
    · rw [decide_eq_false h]; exact beq_eq_false_iff_ne.2 (by omega)
  by_cases h3 : kd % 6 = 3
  · have e : stepL b l ⟨kd, se, f0, f1, f2, t0, t1, t2, pn⟩ = l.filter fun p => !goneA se t0 t2 p := by unfold stepL; rw [if_pos (.inl h3)]
    rw [e]
    exact does_3 w ks g g' b l kd se f0 f1 f2 t0 t1 t2 pn h hl hn hb hk ((hkm 3).trans (decide_eq_true h3))
  · by_cases h4 : kd % 6 = 4
    · have e : stepL b l ⟨kd, se, f0, f1, f2, t0, t1, t2, pn⟩ = l.filter fun p => !goneA se t0 t2 p := by unfold stepL; rw [if_pos (.inr h4)]
      rw [e]
      exact does_4 w ks g g' b l kd se f0 f1 f2 t0 t1 t2 pn h hl hn hb hk ((hkm 3).trans (decide_eq_false h3)) ((hkm 4).trans (decide_eq_true h4))
    · by_cases h5 : kd % 6 = 5
      · have e : stepL b l ⟨kd, se, f0, f1, f2, t0, t1, t2, pn⟩ = l.filter fun p => !goneD se p := by unfold stepL; rw [if_neg (by rintro (h | h) <;> contradiction), if_pos h5]
        rw [e]
        exact does_5 w ks g g' b l kd se f0 f1 f2 t0 t1 t2 pn h hl hn hb hk ((hkm 3).trans (decide_eq_false h3)) ((hkm 4).trans (decide_eq_false h4)) ((hkm 5).trans (decide_eq_true h5))
      · have e : stepL b l ⟨kd, se, f0, f1, f2, t0, t1, t2, pn⟩ = addL b l ⟨se, f0, f1, f2, t0, t1, t2, pn⟩ := by unfold stepL; rw [if_neg (by rintro (h | h) <;> contradiction), if_neg h5]
        rw [e]
        exact does_0 w ks g g' b l kd se f0 f1 f2 t0 t1 t2 pn h hl hn hb hk ((hkm 3).trans (decide_eq_false h3)) ((hkm 4).trans (decide_eq_false h4)) ((hkm 5).trans (decide_eq_false h5))

end Go.Proofs.Ytlchnpmiaemobaa
