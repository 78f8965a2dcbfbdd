/- Layer 7: Decode of the program: its closures; what stands while it sums. -/
import Derived.Test.YtpedobpbpomkaaaFr11
import Derived.Test.YtpedobpbpomkaaaFr7
set_option linter.unusedSimpArgs false
set_option linter.unusedVariables false
namespace Go.Proofs.Ytpedobpbpomkaaa
open Go.RowKit
set_option maxRecDepth 100000

/-- the closure that reads the next number, in its box -/
structure Wd (w : World) (q0 q1 q2 : Nat) (V : Value) (at_ : Nat) : Prop where
  nx : Nx w q1 q2 V at_
  fx : Blk w q0 68 #[.func (.func 55) #[] #[.pointer (some ⟨q1, 0, none⟩), .pointer (some ⟨q2, 0, none⟩)]]
  n0 : q0 ≠ q2
theorem Wd.below {w w' : World} {q0 q1 q2 : Nat} {V : Value} {at_ : Nat} (h : Wd w q0 q1 q2 V at_) (b : Below w.heap.size w w') : Wd w' q0 q1 q2 V at_ := ⟨h.nx.below b, h.fx.below b h.fx.lt, h.n0⟩
theorem Wd.kept {w w' : World} {q0 q1 q2 g : Nat} {V : Value} {at_ : Nat} (h : Wd w q0 q1 q2 V at_) (b : w.grownBy w' (some g)) (h0 : g ≠ q0) (h1 : g ≠ q1) (h2 : g ≠ q2) : Wd w' q0 q1 q2 V at_ :=
  ⟨⟨h.nx.bx.kept b (by intro e; injection e with e; exact h1 e), h.nx.ix.kept b (by intro e; injection e with e; exact h2 e), h.nx.ne⟩, h.fx.kept b (by intro e; injection e with e; exact h0 e), h.n0⟩
theorem Wd.next {w w' : World} {q0 q1 q2 : Nat} {V : Value} {at_ at2 : Nat} (h : Wd w q0 q1 q2 V at_) (b : w.grownBy w' (some q2)) (n : Nx w' q1 q2 V at2) : Wd w' q0 q1 q2 V at2 :=
  ⟨n, h.fx.kept b (by intro e; injection e with e; exact h.n0 e.symm), h.n0⟩

theorem fword_any (at_ q0 q1 q2 : Nat) (A : Option Addr) (c : Nat) (l : List UInt8) (w : World) (hW : Wd w q0 q1 q2 (.slice A l.length c) at_) (hA : Bs w A l) (hl : at_ + 4 ≤ l.length) (hc : l.length ≤ c) (hL : l.length ≤ 100000) :
    Calls Try.prog 40 #[.pointer (some ⟨q0, 0, none⟩)] w fun e w' => e = .returned (.int .u32 (num (part l at_ 4) : Nat)) ∧ Wd w' q0 q1 q2 (.slice A l.length c) (at_ + 4) ∧ w.grownBy w' (some q2) := by
  have HC := Lib.hid (fnext_any 4 at_ q1 q2 A c l w hW.nx hA (by omega) (by omega) hl hc hL)
  have hlt := num_lt (part l at_ 4)
  rw [part_len hl] at hlt
  obtain ⟨n, hn⟩ : ∃ n, n = num (part l at_ 4) := ⟨_, rfl⟩
  rw [← hn] at hlt HC ⊢
  have hlt2 : n < 4294967296 := hlt
  have u4 : IntKind.u32.wrap (n : Int) = (n : Int) := by rw [IntKind.wrap_u32]; omega
  have C := blk_says hW.fx
  simp only [cellsSay, Nat.reduceAdd, and_true] at C
  have HW := Lib.hid hW
  clear hW hA hl hn hlt hlt2
  go_enter Try.func40, Try.ntmps40
  go_wp2_with fail
  refine HC.out.mono ?_
  rintro e w1 ⟨rfl, h1⟩
  have H1 := Lib.hid h1
  clear h1 C HC
  go_wp2_with fail
  go_ret
  exact ⟨rfl, HW.out.next H1.out.2 H1.out.1, H1.out.2⟩

theorem fdec_short (A : Option Addr) (c : Nat) (l : List UInt8) (w : World) (hL : l.length ≤ 100000) (h : l.length < 44 ∨ 4096 < l.length) :
    Calls Try.prog 19 #[.slice A l.length c] w fun e w' => e = .returned (.tuple #[.agg (frC zeroF none 0), .int .u16 70]) ∧ Below w.heap.size w w' := by
  have HR := Lib.hid frC_zero
  have HF := Lib.hid (Blk.new w 30 #[.int .u8 0, .int .u32 0, .int .u32 0, .int .u32 0, .int .u32 0, .int .u32 0, .int .u32 0, .bool false, .int .u64 0, .slice none 0 0, .int .i64 0])
  have C := blk_says HF.out
  simp only [cellsSay, Nat.reduceAdd, and_true] at C
  by_cases h1 : l.length < 44
  · have hd : decide ((l.length : Int) < 44) = true := decide_eq_true (by omega)
    clear h h1
    go_enter Try.func19, Try.ntmps19
    go_wp2_with fail
    refine bodyPost_ret (v := .tuple #[.agg #[.int .u8 0, .int .u32 0, .int .u32 0, .int .u32 0, .int .u32 0, .int .u32 0, .int .u32 0, .bool false, .int .u64 0, .slice none 0 0, .int .i64 0], .int .u16 70]) (by simp [results, Try.results19, go_sem, C]) rfl ⟨by rw [HR.out], ?_⟩
    exact below_alloc _ _
  · have hd : decide ((l.length : Int) < 44) = false := decide_eq_false (by omega)
    have hd2 : decide ((4096 : Int) < l.length) = true := decide_eq_true (by omega)
    clear h h1
    go_enter Try.func19, Try.ntmps19
    go_wp2_with fail
    refine bodyPost_ret (v := .tuple #[.agg #[.int .u8 0, .int .u32 0, .int .u32 0, .int .u32 0, .int .u32 0, .int .u32 0, .int .u32 0, .bool false, .int .u64 0, .slice none 0 0, .int .i64 0], .int .u16 70]) (by simp [results, Try.results19, go_sem, C]) rfl ⟨by rw [HR.out], ?_⟩
    exact below_alloc _ _

/-- what stands while Decode sums: crc's table, the row of one slice, the boxes of numbers' closure -/
structure Rg (w1 W : World) (V1 V2 : Value) (og op : Option Nat) (oq : Option (Nat × Nat)) : Prop where
  b : Below w1.heap.size w1 W
  t : ∀ g, og = some g → TabF W g ∧ w1.heap.size ≤ g
  p : ∀ p, op = some p → Blk W p 26 #[V1] ∧ w1.heap.size ≤ p
  q : ∀ q, oq = some q → Nx W q.1 q.2 V2 0 ∧ w1.heap.size ≤ q.1 ∧ w1.heap.size ≤ q.2
  gp : ∀ g p, og = some g → op = some p → g ≠ p
  gq : ∀ g q, og = some g → oq = some q → g ≠ q.1 ∧ g ≠ q.2
  pq : ∀ p q, op = some p → oq = some q → p ≠ q.1 ∧ p ≠ q.2
theorem Rg.start (w1 : World) (V1 V2 : Value) : Rg w1 w1 V1 V2 none none none := ⟨Below.refl _ _, nofun, nofun, nofun, nofun, nofun, nofun⟩
theorem Rg.drew {w1 W : World} {V1 V2 : Value} {og op : Option Nat} {oq : Option (Nat × Nat)} (h : Rg w1 W V1 V2 og op oq) : Rg w1 W.drew V1 V2 og op oq := ⟨h.b.drew, h.t, h.p, fun q e => ⟨⟨(h.q q e).1.bx, (h.q q e).1.ix, (h.q q e).1.ne⟩, (h.q q e).2⟩, h.gp, h.gq, h.pq⟩
theorem Rg.go {w1 W W' : World} {V1 V2 : Value} {og op : Option Nat} {oq : Option (Nat × Nat)} (h : Rg w1 W V1 V2 og op oq) (b : Below W.heap.size W W') : Rg w1 W' V1 V2 og op oq :=
  ⟨h.b.trans (b.mono h.b.size), fun g e => ⟨(h.t g e).1.below b, (h.t g e).2⟩, fun p e => ⟨(h.p p e).1.below b (h.p p e).1.lt, (h.p p e).2⟩, fun q e => ⟨(h.q q e).1.below b, (h.q q e).2⟩, h.gp, h.gq, h.pq⟩
theorem Rg.alloc {w1 W : World} {V1 V2 : Value} {og : Option Nat} {oq : Option (Nat × Nat)} (h : Rg w1 W V1 V2 og none oq) : Rg w1 (W.alloc (.cells #[V1] 26)) V1 V2 og (some W.heap.size) oq := by
  have h2 := h.go (below_alloc W (.cells #[V1] 26))
  refine ⟨h2.b, h2.t, fun p e => ?_, h2.q, fun g p e1 e2 => ?_, h2.gq, fun p q e1 e2 => ?_⟩
  · cases e; exact ⟨Blk.new _ _ _, h.b.size⟩
  · cases e2; exact Nat.ne_of_lt (Blk.lt (h.t g e1).1)
  · cases e1; exact ⟨(Nat.ne_of_lt (h.q q e2).1.bx.lt).symm, (Nat.ne_of_lt (h.q q e2).1.ix.lt).symm⟩
theorem Rg.new {w1 W W' : World} {V1 V2 : Value} {op : Option Nat} {oq : Option (Nat × Nat)} (h : Rg w1 W V1 V2 none op oq) (b : Below W.heap.size W W') (t : TabF W' W.heap.size) : Rg w1 W' V1 V2 (some W.heap.size) op oq := by
  have h2 := h.go b
  refine ⟨h2.b, fun g e => ?_, h2.p, h2.q, fun g p e1 e2 => ?_, fun g q e1 e2 => ?_, h2.pq⟩
  · cases e; exact ⟨t, h.b.size⟩
  · cases e1; exact (Nat.ne_of_lt (h.p p e2).1.lt).symm
  · cases e1; exact ⟨(Nat.ne_of_lt (h.q q e2).1.bx.lt).symm, (Nat.ne_of_lt (h.q q e2).1.ix.lt).symm⟩
theorem Rg.nums {w1 W W' : World} {V1 V2 : Value} {og op : Option Nat} (h : Rg w1 W V1 V2 og op none) {q1 q2 : Nat} (b : Nx W' q1 q2 V2 0 ∧ W.heap.size ≤ q1 ∧ W.heap.size ≤ q2 ∧ Below W.heap.size W W') : Rg w1 W' V1 V2 og op (some (q1, q2)) := by
  obtain ⟨n, z1, z2, b⟩ := b
  have h2 := h.go b
  have z := h.b.size
  refine ⟨h2.b, h2.t, h2.p, fun q e => ?_, h2.gp, fun g q e1 e2 => ?_, fun p q e1 e2 => ?_⟩
  · cases e; exact ⟨n, by omega, by omega⟩
  · cases e2; have := Blk.lt (h.t g e1).1; exact ⟨by simp only; omega, by simp only; omega⟩
  · cases e2; have := (h.p p e1).1.lt; exact ⟨by simp only; omega, by simp only; omega⟩
theorem Rg.summed {w1 W W' : World} {V1 V2 : Value} {op : Option Nat} {oq : Option (Nat × Nat)} {g : Nat} (h : Rg w1 W V1 V2 (some g) op oq) (t : Tch g W W') : Rg w1 W' V1 V2 none none oq :=
  ⟨h.b.grown t h.b.size (fun k e => by cases e; exact (h.t g rfl).2), nofun, nofun,
    fun q e => ⟨⟨(h.q q e).1.bx.kept t (by intro e2; injection e2 with e2; exact (h.gq g q rfl e).1 e2), (h.q q e).1.ix.kept t (by intro e2; injection e2 with e2; exact (h.gq g q rfl e).2 e2), (h.q q e).1.ne⟩, (h.q q e).2⟩, nofun, nofun, nofun⟩
theorem Rg.call {w1 W W' : World} {V1 V2 : Value} {og op : Option Nat} {q : Nat × Nat} (h : Rg w1 W V1 V2 og op (some q)) (t : W.grownBy W' (some q.2)) : Rg w1 W' V1 V2 og op none :=
  ⟨h.b.grown t h.b.size (fun k e => by cases e; exact (h.q q rfl).2.2),
    fun g e => ⟨Blk.kept (h.t g e).1 t (by intro e2; injection e2 with e2; exact (h.gq g q e rfl).2 e2.symm), (h.t g e).2⟩,
    fun p e => ⟨(h.p p e).1.kept t (by intro e2; injection e2 with e2; exact (h.pq p q e rfl).2 e2.symm), (h.p p e).2⟩, nofun, h.gp, nofun, nofun⟩

end Go.Proofs.Ytpedobpbpomkaaa
