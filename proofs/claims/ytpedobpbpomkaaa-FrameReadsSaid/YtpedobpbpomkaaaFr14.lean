/- Layer 7: Decode of the program: what stands while it reads. -/
import Derived.Test.YtpedobpbpomkaaaFr13
import Derived.Laws.EntriesVeiled
set_option linter.unusedSimpArgs false
set_option linter.unusedVariables false
namespace Go.Proofs.Ytpedobpbpomkaaa
open Go.RowKit
set_option maxRecDepth 100000

/-- what stands while Decode reads, before its frame is there -/
structure Dn (w1 W : World) (q0 q1 q2 : Nat) (V : Value) (at_ : Nat) : Prop where
  b : Below w1.heap.size w1 W
  wd : Wd W q0 q1 q2 V at_
  z : w1.heap.size ≤ q2
/-- and behind -/
structure Dc (w1 W : World) (q0 q1 q2 g : Nat) (cs : Array Value) (V : Value) (at_ : Nat) : Prop where
  d : Dn w1 W q0 q1 q2 V at_
  fr : Blk W g 30 cs
  zg : w1.heap.size ≤ g
  n0 : g ≠ q0
  n1 : g ≠ q1
  n2 : g ≠ q2
theorem Dn.go {w1 W W' : World} {q0 q1 q2 : Nat} {V : Value} {at_ : Nat} (h : Dn w1 W q0 q1 q2 V at_) (b : Below W.heap.size W W') : Dn w1 W' q0 q1 q2 V at_ := ⟨h.b.trans (b.mono h.b.size), h.wd.below b, h.z⟩
theorem Dc.go {w1 W W' : World} {q0 q1 q2 g : Nat} {cs : Array Value} {V : Value} {at_ : Nat} (h : Dc w1 W q0 q1 q2 g cs V at_) (b : Below W.heap.size W W') : Dc w1 W' q0 q1 q2 g cs V at_ := ⟨h.d.go b, h.fr.below b h.fr.lt, h.zg, h.n0, h.n1, h.n2⟩
theorem Dn.make {w1 W : World} {q0 q1 q2 : Nat} {V : Value} {at_ : Nat} (h : Dn w1 W q0 q1 q2 V at_) (cs : Array Value) : Dc w1 (W.alloc (.cells cs 30)) q0 q1 q2 W.heap.size cs V at_ :=
  ⟨h.go (below_alloc _ _), Blk.new _ _ _, h.b.size, (Nat.ne_of_lt h.wd.fx.lt).symm, (Nat.ne_of_lt h.wd.nx.bx.lt).symm, (Nat.ne_of_lt h.wd.nx.ix.lt).symm⟩
theorem Dc.store {w1 W W' : World} {q0 q1 q2 g : Nat} {cs cs' : Array Value} {V : Value} {at_ : Nat} (h : Dc w1 W q0 q1 q2 g cs V at_) (hg : W.grownBy W' (some g)) (hf : Blk W' g 30 cs') : Dc w1 W' q0 q1 q2 g cs' V at_ :=
  ⟨⟨h.d.b.grown hg h.d.b.size (fun k e => by cases e; exact h.zg), h.d.wd.kept hg h.n0 h.n1 h.n2, h.d.z⟩, hf, h.zg, h.n0, h.n1, h.n2⟩
theorem Dn.next {w1 W : World} {q0 q1 q2 at_ c : Nat} {A : Option Addr} {l : List UInt8} (h : Dn w1 W q0 q1 q2 (.slice A l.length c) at_) (hA : Bs w1 A l) (wd : Nat) (h8 : wd ≤ 8) (h0 : 0 < wd) (hl : at_ + wd ≤ l.length) (hc : l.length ≤ c) (hL : l.length ≤ 100000) {n : Nat} (hn : n = num (part l at_ wd)) :
    Calls Try.prog 55 #[.int .i64 (wd : Nat), .pointer (some ⟨q1, 0, none⟩), .pointer (some ⟨q2, 0, none⟩)] W fun e w' => e = .returned (.int .u64 (n : Nat)) ∧ Dn w1 w' q0 q1 q2 (.slice A l.length c) (at_ + wd) ∧ W.grownBy w' (some q2) :=
  (fnext_any wd at_ q1 q2 A c l W h.wd.nx (hA.below h.b) h8 h0 hl hc hL).mono (by
    rintro e w' ⟨he, hx, hg⟩
    exact ⟨by rw [hn]; exact he, ⟨h.b.grown hg h.b.size (fun k e => by cases e; exact h.z), h.wd.next hg hx, h.z⟩, hg⟩)
theorem Dn.word {w1 W : World} {q0 q1 q2 at_ c : Nat} {A : Option Addr} {l : List UInt8} (h : Dn w1 W q0 q1 q2 (.slice A l.length c) at_) (hA : Bs w1 A l) (hl : at_ + 4 ≤ l.length) (hc : l.length ≤ c) (hL : l.length ≤ 100000) {n : Nat} (hn : n = num (part l at_ 4)) :
    Calls Try.prog 40 #[.pointer (some ⟨q0, 0, none⟩)] W fun e w' => e = .returned (.int .u32 (n : Nat)) ∧ Dn w1 w' q0 q1 q2 (.slice A l.length c) (at_ + 4) ∧ W.grownBy w' (some q2) :=
  (fword_any at_ q0 q1 q2 A c l W h.wd (hA.below h.b) hl hc hL).mono (by
    rintro e w' ⟨he, hx, hg⟩
    exact ⟨by rw [hn]; exact he, ⟨h.b.grown hg h.b.size (fun k e => by cases e; exact h.z), hx, h.z⟩, hg⟩)
theorem Dc.next {w1 W : World} {q0 q1 q2 g at_ c : Nat} {cs : Array Value} {A : Option Addr} {l : List UInt8} (h : Dc w1 W q0 q1 q2 g cs (.slice A l.length c) at_) (hA : Bs w1 A l) (wd : Nat) (h8 : wd ≤ 8) (h0 : 0 < wd) (hl : at_ + wd ≤ l.length) (hc : l.length ≤ c) (hL : l.length ≤ 100000) {n : Nat} (hn : n = num (part l at_ wd)) :
    Calls Try.prog 55 #[.int .i64 (wd : Nat), .pointer (some ⟨q1, 0, none⟩), .pointer (some ⟨q2, 0, none⟩)] W fun e w' => e = .returned (.int .u64 (n : Nat)) ∧ Dc w1 w' q0 q1 q2 g cs (.slice A l.length c) (at_ + wd) :=
  (h.d.next hA wd h8 h0 hl hc hL hn).mono (by
    rintro e w' ⟨he, hd, hg⟩
    exact ⟨he, hd, h.fr.kept hg (by intro e; injection e with e; exact h.n2 e.symm), h.zg, h.n0, h.n1, h.n2⟩)
theorem Dc.word {w1 W : World} {q0 q1 q2 g at_ c : Nat} {cs : Array Value} {A : Option Addr} {l : List UInt8} (h : Dc w1 W q0 q1 q2 g cs (.slice A l.length c) at_) (hA : Bs w1 A l) (hl : at_ + 4 ≤ l.length) (hc : l.length ≤ c) (hL : l.length ≤ 100000) {n : Nat} (hn : n = num (part l at_ 4)) :
    Calls Try.prog 40 #[.pointer (some ⟨q0, 0, none⟩)] W fun e w' => e = .returned (.int .u32 (n : Nat)) ∧ Dc w1 w' q0 q1 q2 g cs (.slice A l.length c) (at_ + 4) :=
  (h.d.word hA hl hc hL hn).mono (by
    rintro e w' ⟨he, hd, hg⟩
    exact ⟨he, hd, h.fr.kept hg (by intro e; injection e with e; exact h.n2 e.symm), h.zg, h.n0, h.n1, h.n2⟩)

end Go.Proofs.Ytpedobpbpomkaaa
