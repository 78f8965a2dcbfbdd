/- An argument that is a slice of texts. -/
import Derived.Test.YtmfoccbidlonmaaGau5
import Derived.Test.YtmfoccbidlonmaaFrameB
import Derived.SliceStrings
namespace Go.Proofs.Ytmfoccbidlonmaa
open Go.ChangeShapes Go.WideShapes Go.ChangeAt Go.RowKit Go.Joins

section
variable {H : Type} {enc : TypeId × Value → H} {W : World}
set_option maxRecDepth 100000 in
/-- []string as a parameter -/
theorem open_textsArg {b0 : Nat} {v : Value} {d : DataW H} {p : List MemPlace} (hv : Value.okWide Try.prog W .any b0 72 v) (h : DataW.Trod enc Try.prog W 0 (fun _ => true) true 72 v d p) :
    ∃ (A : Option Addr) (c : Nat) (l : List (List UInt8)), v = .slice A l.length c ∧ Ts W A l ∧ (∀ s ∈ l, s.length ≤ maxLen) := by
  obtain ⟨a0, len0, cap0, rfl⟩ := okWide_slice Try.underlying72 hv
  obtain ⟨n, h⟩ := h
  rcases open_strings Try.underlying72 Try.underlying9 (by kernel_rfl) h with ⟨hcs, _⟩ | ⟨a, len, cap, ss, hcs, _, hl, _, hss, _, hc, hb⟩
  · simp [Value.cells] at hcs
    obtain ⟨rfl, rfl, rfl⟩ := hcs
    exact ⟨none, 0, [], rfl, fun i s h => by simp at h, fun s h => by simp at h⟩
  · simp [Value.cells] at hcs
    obtain ⟨rfl, rfl, rfl⟩ := hcs
    have hlen : len0 ≤ ss.length := by rw [hss]; split <;> omega
    refine ⟨some a, cap0, (ss.take len0).map fun s => s.data.toList, ?_, fun i s hi => ?_, fun s hs => ?_⟩
    · rw [List.length_map, List.length_take, Nat.min_eq_left hlen]
    · rw [List.getElem?_map] at hi
      obtain ⟨t, ht, rfl⟩ := Option.map_eq_some_iff.1 hi
      rw [List.getElem?_take] at ht
      split at ht
      · rename_i hil
        have hc0 := hc 0 (by omega)
        obtain ⟨p, o, spot⟩ := a
        have hs : spot = none := by simpa [Addr.add] using World.cell?_spot hc0
        subst hs
        refine ⟨p, o, rfl, ?_⟩
        have h2 := hc i (by omega)
        rw [List.getD_eq_getElem?_getD, ht] at h2
        have e : (⟨p, o, none⟩ : Addr).add i = ⟨p, o + i, none⟩ := by
          unfold Addr.add
          split
          · rename_i h0; subst h0; rfl
          · rfl
        rw [e] at h2
        rw [h2]
        rfl
      · cases ht
    · obtain ⟨t, ht, rfl⟩ := List.mem_map.1 hs
      have := hb t (List.mem_of_mem_take ht)
      show t.data.toList.length ≤ maxLen
      rw [Array.length_toList]
      exact this
end

set_option maxRecDepth 100000 in
theorem gaugeDoes_walk (A B : Option Addr) (c d : Nat) (l : List (List UInt8)) (m : List UInt8) (w : World) (hl : Ts w A l) (hm : Bs w B m) (hs : ∀ s ∈ l, s.length ≤ maxLen) :
    Calls Try.prog 12 #[.slice A l.length c, .slice B m.length d] w fun e w' => e = .returned (.bool true) ∧ Below w.heap.size w w' := by
  rcases Nat.lt_or_ge 100 l.length with h0 | h0
  · have d1 : decide ((100 : Int) < l.length) = true := by simp; omega
    have d2 : decide (100 < l.length) = true := by simp; omega
    clear hs
    go_enter Try.func12, Try.ntmps12
    go_wp2_with (go_at_call 40; refine (gKnown_any _).mono ?_; rintro e w1 ⟨rfl, hb1⟩)
    go_ret
    exact ⟨rfl, hb1⟩
  rcases Nat.lt_or_ge 100 m.length with h1 | h1
  · have d1 : decide ((100 : Int) < l.length) = false := by simp; omega
    have d2 : decide (100 < l.length) = false := by simp; omega
    have d3 : decide ((100 : Int) < m.length) = true := by simp; omega
    have d4 : decide (100 < m.length) = true := by simp; omega
    clear hs
    go_enter Try.func12, Try.ntmps12
    go_wp2_with (go_at_call 40; refine (gKnown_any _).mono ?_; rintro e w1 ⟨rfl, hb1⟩)
    go_ret
    exact ⟨rfl, hb1⟩
  exact gaugeDoes_small A B c d l m w hl hm hs h0 h1

end Go.Proofs.Ytmfoccbidlonmaa
