/- Layer 19: walk of NetTwice. -/
import Derived.Test.YtanenfbfcbkdhaaNw9
set_option linter.unusedSimpArgs false
set_option linter.unusedVariables false
namespace Go.Proofs.Ytanenfbfcbkdhaa
open Go.RowKit
set_option maxRecDepth 100000

/-- a network of the call's own -/
structure NS (B : Nat) (w0 W : World) (q : Nat) (V : Value) (T : List Ng) : Prop where
  b : Below B w0 W
  sz : B ≤ W.heap.size
  nt : Nt W q V T
  ok : okT T
  ft : ∀ k, ftN q V T k → B ≤ k
section
variable {B : Nat} {w0 W W' : World} {q : Nat} {V V' : Value} {T T' : List Ng}
theorem NS.to (h : NS B w0 W q V T) (t : NtTo W q V T W' V' T') (ok : okT T') : NS B w0 W' q V' T' :=
  ⟨t.tou.under h.b h.ft h.sz, Nat.le_trans h.sz t.tou.size, t.nt, ok, fun k hk => (t.new k hk).elim (h.ft k) (fun e => Nat.le_trans h.sz e)⟩
theorem NS.go (h : NS B w0 W q V T) (b : Below W.heap.size W W') : NS B w0 W' q V T := h.to (NtTo.same h.nt b) h.ok
theorem NS.bs (h : NS B w0 W q V T) (hB : w0.heap.size ≤ B) {A : Option Addr} {l : List UInt8} (b : Bs w0 A l) : Bs W A l := fun i x hi => by
  obtain ⟨p, o, hA, hc⟩ := b i x hi
  exact ⟨p, o, hA, (h.b.cell (Nat.lt_of_lt_of_le (cell_lt hc) hB)).trans hc⟩
end
theorem sendD_two (d : Dg) (r : List Dg) (sd : Nat) (b : List UInt8) : ∃ r', sendD (d :: d :: r) sd b = d :: d :: r' ∧ r'.length ≤ r.length + 1 := by
  unfold sendD addD
  split
  · split
    · exact ⟨r ++ [⟨sd, b, false⟩], by simp, by simp⟩
    · exact ⟨r, rfl, by omega⟩
  · exact ⟨r, rfl, by omega⟩

theorem netTwice_known (A : Option Addr) (c : Nat) (b : List UInt8) (to_ : Nat) (V : Option Addr) (cv : Nat) (l : List OpN) (w : World) (hV : Rw w encOp 6 V l) (hl : l.length ≤ maxLen) (hb : b.length ≤ maxLen) (ho : ∀ o ∈ l, o.ok w) (hk : heavyL l = true ∨ b.length < 1 ∨ 4096 < b.length) :
    Calls Try.prog 3 #[.slice A b.length c, .int .u8 (to_ : Nat), .slice V l.length cv] w fun e w' => e = .returned (.bool true) ∧ Below w.heap.size w w' := by
  have HH := Lib.hid (nheavy_any V cv l w hV hl (fun o h => (ho o h).2.2.2.1))
  have HK := Lib.hid (nknown_any w)
  obtain ⟨n, hn⟩ : ∃ n, n = b.length := ⟨_, rfl⟩
  rw [← hn] at hk ⊢
  clear hV hl hb ho hn
  cases hh : heavyL l with
  | true =>
    rw [hh] at HH
    clear hk hh
    go_enter Try.func3, Try.ntmps3
    go_wp2_with fail
    refine HH.out.mono ?_
    rintro e w1 ⟨rfl, hw⟩
    rw [hw]
    clear hw
    go_wp2_with fail
    refine HK.out.mono ?_
    rintro e w1 ⟨rfl, k⟩
    have Hk := Lib.hid k
    clear k
    go_wp2_with fail
    go_ret
    exact ⟨rfl, Hk.out⟩
  | false =>
    rw [hh] at HH hk
    by_cases h1 : n < 1
    · have hd : decide ((n : Int) < 1) = true := decide_eq_true (by omega)
      clear hk hh h1
      go_enter Try.func3, Try.ntmps3
      go_wp2_with fail
      refine HH.out.mono ?_
      rintro e w1 ⟨rfl, hw⟩
      rw [hw]
      clear hw
      go_wp2_with fail
      refine HK.out.mono ?_
      rintro e w1 ⟨rfl, k⟩
      have Hk := Lib.hid k
      clear k
      go_wp2_with fail
      go_ret
      exact ⟨rfl, Hk.out⟩
    · have hd : decide ((n : Int) < 1) = false := decide_eq_false (by omega)
      have hd2 : decide ((4096 : Int) < (n : Int)) = true := decide_eq_true (by
        rcases hk with h9 | h9 | h9
        · cases h9
        · omega
        · omega)
      clear hk hh h1
      go_enter Try.func3, Try.ntmps3
      go_wp2_with fail
      refine HH.out.mono ?_
      rintro e w1 ⟨rfl, hw⟩
      rw [hw]
      clear hw
      go_wp2_with fail
      refine HK.out.mono ?_
      rintro e w1 ⟨rfl, k⟩
      have Hk := Lib.hid k
      clear k
      go_wp2_with fail
      go_ret
      exact ⟨rfl, Hk.out⟩

end Go.Proofs.Ytanenfbfcbkdhaa
