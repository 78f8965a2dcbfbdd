/- Joined: Smp. -/
import Derived.Test.YtiipmjdmmoaodaaDoorQ8
import Derived.ProofKit
import Derived.OpenShut
import Derived.Lib.SmallJoins
import Derived.Carry
import Derived.Deep.SlicePairs
set_option linter.unusedSimpArgs false
set_option linter.unusedVariables false
/- Slices of samples: as they read, as the call's own; opened as a parameter. -/
namespace Go.Proofs.YtiipmjdmmoaodaaDoor
open Go.RowKit Go.ChangeShapes Go.WideShapes Go.ChangeAt Go.Joins Go.Deep
set_option maxRecDepth 100000

/-- the cells from V on hold samples -/
def Ss (w : World) (V : Option Addr) (l : List (Int × Nat)) : Prop :=
  ∀ i s, l[i]? = some s → ∃ p o, V = some ⟨p, o, none⟩ ∧ w.cell? ⟨p, o + i * 2, none⟩ = some (.int .i64 s.1) ∧ w.cell? ⟨p, o + i * 2 + 1, none⟩ = some (.int .u64 s.2)
theorem Ss.below {w w' : World} {V : Option Addr} {l : List (Int × Nat)} (h : Ss w V l) (hb : Below w.heap.size w w') : Ss w' V l := fun i s hi => by
  obtain ⟨p, o, hV, h1, h2⟩ := h i s hi
  exact ⟨p, o, hV, (hb.cell (cell_lt h1)).trans h1, (hb.cell (cell_lt h2)).trans h2⟩
/-- times and values are numbers of 64 bits -/
def okS (l : List (Int × Nat)) : Prop := ∀ s ∈ l, (-9223372036854775808 ≤ s.1 ∧ s.1 ≤ 9223372036854775807) ∧ s.2 < 18446744073709551616
theorem okS.take {l : List (Int × Nat)} (h : okS l) (k : Nat) : okS (l.take k) := fun s hs => h s (List.mem_of_mem_take hs)
theorem okS.drop {l : List (Int × Nat)} (h : okS l) (k : Nat) : okS (l.drop k) := fun s hs => h s (List.mem_of_mem_drop hs)

def smp (s : Int × Nat) : List Value := [.int .i64 s.1, .int .u64 s.2]
theorem Tryd.eltS : Elt Tryd.prog 31 66 smp 2 16 := ⟨Tryd.underlying31, ⟨.agg #[.int .i64 0, .int .u64 0], by kernel_rfl, rfl⟩, by decide, fun _ => rfl, fun x v h => by
  simp [smp] at h; rcases h with rfl | rfl <;> rfl⟩
theorem Rw.ss {w : World} {V : Option Addr} {l : List (Int × Nat)} (h : Rw w smp 2 V l) : Ss w V l := fun i s hi => by
  obtain ⟨p, o, hV, hc⟩ := h i s hi
  exact ⟨p, o, hV, hc 0 _ rfl, hc 1 _ rfl⟩
theorem Ss.rw' {w : World} {V : Option Addr} {l : List (Int × Nat)} (h : Ss w V l) : Rw w smp 2 V l := fun i s hi => by
  obtain ⟨p, o, hV, h1, h2⟩ := h i s hi
  refine ⟨p, o, hV, fun j v hj => ?_⟩
  match j, hj with
  | 0, hj => simp [smp] at hj; subst hj; exact h1
  | 1, hj => simp [smp] at hj; subst hj; exact h2
  | j + 2, hj => simp [smp] at hj
theorem Ss.nil (w : World) (V : Option Addr) : Ss w V [] := fun i s h => by simp at h
theorem Ss.take {w : World} {V : Option Addr} {l : List (Int × Nat)} (h : Ss w V l) (k : Nat) : Ss w V (l.take k) := fun i s hi => h i s (by
  rw [List.getElem?_take] at hi
  split at hi
  · exact hi
  · cases hi)
theorem Ss.drop {w : World} {p o : Nat} {l : List (Int × Nat)} (h : Ss w (some ⟨p, o, none⟩) l) (k : Nat) : Ss w (some ⟨p, o + k * 2, none⟩) (l.drop k) := fun i s hi => by
  rw [List.getElem?_drop] at hi
  obtain ⟨p', o', hV, h1, h2⟩ := h _ s hi
  injection hV with e
  injection e with e1 e2 _
  subst e1; subst e2
  refine ⟨p, o + k * 2, rfl, ?_, ?_⟩
  · rw [← h1]; congr 2; omega
  · rw [← h2]; congr 2; omega

/-- samples of the call's own -/
abbrev OwnS (w : World) (base : Nat) (v : Value) (l : List (Int × Nat)) : Prop := OwnR w base 66 smp 2 v l
theorem OwnS.ss {w : World} {base : Nat} {v : Value} {l : List (Int × Nat)} (h : OwnS w base v l) : ∃ A c, v = .slice A l.length c ∧ l.length ≤ c ∧ Ss w A l := by
  obtain ⟨A, c, h1, h2, h3⟩ := OwnR.row Tryd.eltS h
  exact ⟨A, c, h1, h2, h3.ss⟩

theorem spotS {w : World} {a : Addr} {v : Value} (h : w.cell? a = some v) : ∃ p o, a = ⟨p, o, none⟩ := by
  obtain ⟨p, o, s⟩ := a
  have : s = none := World.cell?_spot h
  exact ⟨p, o, by rw [this]⟩
theorem addS (p o i : Nat) : (⟨p, o, none⟩ : Addr).add i = ⟨p, o + i, none⟩ := by
  unfold Addr.add
  split
  · rename_i h0; subst h0; rfl
  · rfl

theorem list_ofS {α : Type} (P : Nat → α → Prop) (n : Nat) (h : ∀ i, i < n → ∃ x, P i x) : ∃ l : List α, l.length = n ∧ ∀ i x, l[i]? = some x → P i x := by
  induction n with
  | zero => exact ⟨[], rfl, fun i x h => by simp at h⟩
  | succ n ih =>
    obtain ⟨l, hl, hp⟩ := ih fun i hi => h i (by omega)
    obtain ⟨x, hx⟩ := h n (by omega)
    refine ⟨l ++ [x], by simp [hl], fun i y hy => ?_⟩
    rcases Nat.lt_or_ge i n with h1 | h1
    · rw [List.getElem?_append_left (by omega)] at hy; exact hp i y hy
    · rw [List.getElem?_append_right (by omega), hl] at hy
      have : i - n = 0 := by
        rcases Nat.eq_zero_or_pos (i - n) with h2 | h2
        · exact h2
        · rw [List.getElem?_eq_none (by simp; omega)] at hy; cases hy
      rw [this] at hy
      simp at hy
      subst hy
      obtain rfl : i = n := by omega
      exact hx

section
variable {H : Type} {enc : TypeId × Value → H} {W : World}
/-- a slice of api.Sample -/
theorem open_samples {b0 : Nat} {v : Value} {d : DataW H} {p : List MemPlace} (hv : Value.okWide Tryd.prog W .any b0 31 v) (h : DataW.Trod enc Tryd.prog W 0 (fun _ => true) true 31 v d p) :
    ∃ (V : Option Addr) (c : Nat) (l : List (Int × Nat)), v = .slice V l.length c ∧ Ss W V l ∧ l.length ≤ maxLen ∧ okS l := by
  obtain ⟨a0, len0, cap0, rfl⟩ := okWide_slice Tryd.underlying31 hv
  obtain ⟨n, h⟩ := h
  rcases open_slice_pairs Tryd.underlying31 Tryd.underlying66 (by kernel_rfl) rfl rfl (by kernel_rfl) (by kernel_rfl) h with ⟨hcs, _⟩ | ⟨a, len, cap, m, n, V0, V1, D0, D1, P0, P1, hcs, _, hl, hm, hmm, _, hi⟩
  · simp [Value.cells] at hcs
    obtain ⟨rfl, rfl, rfl⟩ := hcs
    exact ⟨none, 0, [], rfl, fun i e h => by simp at h, Nat.zero_le _, fun e h => by simp at h⟩
  · simp [Value.cells] at hcs
    obtain ⟨rfl, rfl, rfl⟩ := hcs
    have hlm : len0 ≤ m := by rw [hmm]; split <;> omega
    obtain ⟨E, hE, hp⟩ := list_ofS (fun i (e : Int × Nat) => ∃ p o, some a = some ⟨p, o, none⟩ ∧ W.cell? ⟨p, o + i * 2, none⟩ = some (.int .i64 e.1) ∧ W.cell? ⟨p, o + i * 2 + 1, none⟩ = some (.int .u64 e.2) ∧
        ((-9223372036854775808 ≤ e.1 ∧ e.1 ≤ 9223372036854775807) ∧ e.2 < 18446744073709551616)) len0 (fun i hil => by
      obtain ⟨h0, h1, t0, t1⟩ := hi i (by omega)
      obtain ⟨k0, e0, _, w0⟩ := DataW.trod_int Tryd.underlying2 t0
      obtain ⟨k1, e1, _, w1⟩ := DataW.trod_int Tryd.underlying40 t1
      simp at e0 e1
      have hc0 := (hi 0 (by omega)).1
      rw [Nat.zero_mul] at hc0
      obtain ⟨p, o, rfl⟩ := spotS (show W.cell? a = some _ by simpa [Addr.add] using hc0)
      rw [addS] at h0 h1
      rw [e0] at h0
      rw [e1] at h1
      have b1 := bounds_u64 w1
      refine ⟨(k0, k1.toNat), p, o, rfl, h0, ?_, bounds_i64 w0, by simp; omega⟩
      rw [Nat.add_assoc, h1]; simp; omega)
    refine ⟨some a, cap0, E, by rw [hE], fun i e he => ?_, by omega, fun e he => ?_⟩
    · obtain ⟨p, o, h1, h2, h3, _⟩ := hp i e he
      exact ⟨p, o, h1, h2, h3⟩
    · obtain ⟨j, hj, rfl⟩ := List.getElem_of_mem he
      obtain ⟨_, _, _, _, _, h6⟩ := hp j _ (List.getElem?_eq_getElem hj)
      exact h6
end

end Go.Proofs.YtiipmjdmmoaodaaDoor
