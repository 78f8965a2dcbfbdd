/- Names of gauges: plain mathematics, the map of names. -/
import Derived.Test.YtmfoccbidlonmaaOnce
import Derived.Test.YtmfoccbidlonmaaTch
import Derived.Outline
import Derived.Maps.Own
import Derived.Maps.OwnSet
namespace Go.Proofs.Ytmfoccbidlonmaa
open Go.RowKit Go.Maps

def NM : List (List UInt8) := [[97, 112, 112, 101, 110, 100], [98, 101, 110, 100], [99, 111, 109, 112, 97, 99, 116], [99, 114, 97, 115, 104], [100, 101, 108, 105, 118, 101, 114], [100, 114, 111, 112], [114, 101, 102, 117, 115, 101], [115, 101, 110, 100], [115, 121, 110, 99], [116, 105, 99, 107], [116, 119, 105, 99, 101]]
def NV : Array Value := #[.string ⟨#[97, 112, 112, 101, 110, 100]⟩, .string ⟨#[98, 101, 110, 100]⟩, .string ⟨#[99, 111, 109, 112, 97, 99, 116]⟩, .string ⟨#[99, 114, 97, 115, 104]⟩, .string ⟨#[100, 101, 108, 105, 118, 101, 114]⟩, .string ⟨#[100, 114, 111, 112]⟩, .string ⟨#[114, 101, 102, 117, 115, 101]⟩, .string ⟨#[115, 101, 110, 100]⟩, .string ⟨#[115, 121, 110, 99]⟩, .string ⟨#[116, 105, 99, 107]⟩, .string ⟨#[116, 119, 105, 99, 101]⟩]
theorem NM_inj : ∀ i, i < 11 → ∀ j, j < 11 → NM[i]? = NM[j]? → i = j := by decide
theorem NV_get : ∀ i, i < 11 → NV[i]? = (NM[i]?).map fun l => .string ⟨l.toArray⟩ := by
  intro i hi
  match i, hi with
  | 0, _ => rfl
  | 1, _ => rfl
  | 2, _ => rfl
  | 3, _ => rfl
  | 4, _ => rfl
  | 5, _ => rfl
  | 6, _ => rfl
  | 7, _ => rfl
  | 8, _ => rfl
  | 9, _ => rfl
  | 10, _ => rfl
  | n + 11, h => omega
theorem NM_len (l : List UInt8) (h : l ∈ NM) : l.length ≤ 7 := by
  have : ∀ l ∈ NM, l.length ≤ 7 := by decide
  exact this l h

/-- the map of the first k names -/
def dmap : Nat → DataW Unit
  | 0 => .map []
  | k + 1 => (dmap k).put (.string (NM.getD k [])) (.lit (.int .i64 k))
theorem dmap_spec : ∀ k, k ≤ 11 → IsMap (dmap k) ∧ (∀ s, Maps.has (dmap k) (.string s) = true ↔ ∃ i, i < k ∧ NM[i]? = some s) ∧
    (∀ i s, i < k → NM[i]? = some s → (dmap k).atKey (.string s) (.lit (.int .i64 0)) = .lit (.int .i64 i)) := by
  intro k
  induction k with
  | zero => intro _; exact ⟨⟨[], rfl⟩, fun s => ⟨fun h => by simp [dmap, Maps.has] at h, fun ⟨i, h, _⟩ => by omega⟩, fun i s h => by omega⟩
  | succ k ih =>
    intro hk
    obtain ⟨h1, h2, h3⟩ := ih (by omega)
    have hlen : NM.length = 11 := rfl
    have hkn : NM[k]? = some (NM.getD k []) := by
      rw [List.getD_eq_getElem?_getD]
      rw [List.getElem?_eq_getElem (by omega)]; rfl
    refine ⟨h1.put _ _, fun s => ?_, fun i s hi hs => ?_⟩
    · by_cases hs : s = NM.getD k []
      · subst hs
        exact ⟨fun _ => ⟨k, by omega, hkn⟩, fun _ => has_put_same h1 (by trivial) _⟩
      · have hne : (Lit.string s) ≠ Lit.string (NM.getD k []) := fun h => hs (by injection h)
        show Maps.has ((dmap k).put _ _) _ = true ↔ _
        rw [has_put_other hne, h2]
        constructor
        · rintro ⟨i, hi, e⟩; exact ⟨i, by omega, e⟩
        · rintro ⟨i, hi, e⟩
          rcases Nat.lt_or_ge i k with h | h
          · exact ⟨i, h, e⟩
          · obtain rfl : i = k := by omega
            rw [hkn] at e; injection e with e; exact absurd e.symm hs
    · by_cases hik : i = k
      · subst hik
        rw [hkn] at hs; injection hs with hs; subst hs
        exact atKey_put_same h1 (by trivial) _ _
      · have hne : (Lit.string s) ≠ Lit.string (NM.getD k []) := fun h => by
          injection h with h
          have : NM[i]? = NM[k]? := by rw [hs, hkn, h]
          exact hik (NM_inj i (by omega) k (by omega) this)
        show ((dmap k).put _ _).atKey _ _ = _
        rw [atKey_put_other hne]
        exact h3 i s (by omega) hs

end Go.Proofs.Ytmfoccbidlonmaa
