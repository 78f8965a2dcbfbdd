/- The parameters of the statements, opened: slices of bits. -/
import Derived.Test.YtbogjnfjnchfhaaFrame
import Derived.Test.YtbogjnfjnchfhaaBit8
import Derived.Deep.SlicePairs
namespace Go.Proofs.Ytbogjnfjnchfhaa
open Go.ChangeShapes Go.WideShapes Go.ChangeAt Go.RowKit Go.Joins Go.Deep

theorem spot_none {w : World} {a : Addr} {v : Value} (h : w.cell? a = some v) : ∃ p o, a = ⟨p, o, none⟩ := by
  obtain ⟨p, o, s⟩ := a
  have : s = none := World.cell?_spot h
  exact ⟨p, o, by rw [this]⟩
theorem add_none (p o i : Nat) : (⟨p, o, none⟩ : Addr).add i = ⟨p, o + i, none⟩ := by
  unfold Addr.add
  split
  · rename_i h0; subst h0; rfl
  · rfl
theorem add_spot {w : World} {a : Addr} {v : Value} {j : Nat} (h : w.cell? (a.add (0 * j)) = some v) : ∃ p o, a = ⟨p, o, none⟩ := by
  rw [Nat.zero_mul] at h
  exact spot_none (show w.cell? a = some v by simpa [Addr.add] using h)

section
variable {H : Type} {enc : TypeId × Value → H} {W : World}

/-- a list that has so many elements, each as chosen -/
theorem list_of {α : Type} (P : Nat → α → Prop) (n : Nat) (h : ∀ i, i < n → ∃ x, P i x) : ∃ l : List α, l.length = n ∧ ∀ i x, l[i]? = some x → P i x := by
  induction n with
  | zero => exact ⟨[], rfl, fun i x h => by simp at h⟩
  | succ n ih =>
    obtain ⟨l, hl, hp⟩ := ih fun i hi => h i (by omega)
    obtain ⟨x, hx⟩ := h n (by omega)
    refine ⟨l ++ [x], by simp [hl], fun i y hy => ?_⟩
    rcases Nat.lt_or_ge i n with h1 | h1
    · rw [List.getElem?_append_left (by omega)] at hy; exact hp i y hy
    · rw [List.getElem?_append_right (by omega), hl] at hy
      have : i - n = 0 := by
        rcases Nat.eq_zero_or_pos (i - n) with h2 | h2
        · exact h2
        · rw [List.getElem?_eq_none (by simp; omega)] at hy; cases hy
      rw [this] at hy
      simp at hy
      subst hy
      obtain rfl : i = n := by omega
      exact hx

/-- a slice of api.Bits -/
theorem open_bitsl {b0 : Nat} {v : Value} {d : DataW H} {p : List MemPlace} (hv : Value.okWide Try.prog W .any b0 35 v) (h : DataW.Trod enc Try.prog W 0 (fun _ => true) true 35 v d p) :
    ∃ (V : Option Addr) (c : Nat) (E : List (List UInt8 × Int)), v = .slice V E.length c ∧ BsL W V E ∧ E.length ≤ maxLen ∧ ∀ e ∈ E, e.1.length ≤ maxLen := by
  obtain ⟨a0, len0, cap0, rfl⟩ := okWide_slice Try.underlying35 hv
  obtain ⟨n, h⟩ := h
  rcases open_slice_pairs Try.underlying35 Try.underlying24 (by kernel_rfl) rfl rfl (by kernel_rfl) (by kernel_rfl) h with ⟨hcs, _⟩ | ⟨a, len, cap, m, n, V0, V1, D0, D1, P0, P1, hcs, _, hl, hm, hmm, _, hi⟩
  · simp [Value.cells] at hcs
    obtain ⟨rfl, rfl, rfl⟩ := hcs
    exact ⟨none, 0, [], rfl, fun i e h => by simp at h, Nat.zero_le _, fun e h => by simp at h⟩
  · simp [Value.cells] at hcs
    obtain ⟨rfl, rfl, rfl⟩ := hcs
    have hlm : len0 ≤ m := by rw [hmm]; split <;> omega
    obtain ⟨E, hE, hp⟩ := list_of (fun i (e : List UInt8 × Int) => ∃ p o A c, some a = some ⟨p, o, none⟩ ∧ W.cell? ⟨p, o + i * 2, none⟩ = some (.slice A e.1.length c) ∧ W.cell? ⟨p, o + i * 2 + 1, none⟩ = some (.int .i64 e.2) ∧ Bs W A e.1 ∧
        (-9223372036854775808 ≤ e.2 ∧ e.2 ≤ 9223372036854775807) ∧ e.1.length ≤ maxLen) len0 (fun i hil => by
      obtain ⟨h0, h1, t0, t1⟩ := hi i (by omega)
      obtain ⟨A, c, l, e0, hll, hb⟩ := open_bytes t0
      obtain ⟨k, e1, _, wn⟩ := DataW.trod_int Try.underlying3 t1
      simp at e1
      obtain ⟨p, o, rfl⟩ := add_spot (hi 0 (by omega)).1
      rw [add_none] at h0 h1
      rw [e0] at h0
      rw [e1] at h1
      exact ⟨(l, k), p, o, A, c, rfl, h0, h1, hb, bounds_i64 wn, hll⟩)
    refine ⟨some a, cap0, E, by rw [hE], fun i e he => ?_, by omega, fun e he => ?_⟩
    · obtain ⟨p, o, A, c, h1, h2, h3, h4, h5, _⟩ := hp i e he
      exact ⟨p, o, A, c, h1, h2, h3, h4, h5⟩
    · obtain ⟨j, hj, rfl⟩ := List.getElem_of_mem he
      obtain ⟨_, _, _, _, _, _, _, _, _, h6⟩ := hp j _ (List.getElem?_eq_getElem hj)
      exact h6
end

end Go.Proofs.Ytbogjnfjnchfhaa
