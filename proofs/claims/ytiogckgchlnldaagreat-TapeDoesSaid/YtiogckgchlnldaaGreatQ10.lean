/- Joined: Mpf. -/
import Derived.Test.YtiogckgchlnldaaGreatQ5
import Derived.Test.YtiogckgchlnldaaGreatQ1
import Derived.Outline
import Derived.Maps.Own
import Derived.Maps.OwnSet
import Derived.Maps.RangeWalk
import Derived.StringKeys
set_option linter.unusedSimpArgs false
set_option linter.unusedVariables false
/- Maps from names to places of memory. -/
set_option linter.unusedSimpArgs false
set_option linter.unusedVariables false
namespace Go.Proofs.YtiogckgchlnldaaGreat
open Go.RowKit Go.Maps Go.ChangeMaps Go.MapKept Go.WideMaps
set_option maxRecDepth 100000

/-- how a pointer to a block reads -/
def ptrE : Value → Option (DataW Unit × List MemPlace)
  | .pointer none => some (.nil, [])
  | .pointer (some ⟨g, 0, none⟩) => some (.lit (.int .i64 g), [])
  | _ => none
def ptrV : Option Nat → Value
  | none => .pointer none
  | some g => .pointer (some ⟨g, 0, none⟩)
def ptrD : Option Nat → DataW Unit
  | none => .nil
  | some g => .lit (.int .i64 g)
theorem ptrE_mk (o : Option Nat) : ptrE (ptrV o) = some (ptrD o, []) := by cases o <;> rfl
theorem ptrE_shape {v : Value} {y : DataW Unit × List MemPlace} (h : ptrE v = some y) : ∃ o, v = ptrV o ∧ y = (ptrD o, []) := by
  unfold ptrE at h
  split at h
  · exact ⟨none, rfl, by injection h with h; exact h.symm⟩
  · rename_i g
    exact ⟨some g, rfl, by injection h with h; exact h.symm⟩
  · cases h
theorem ptrD_inj {o o' : Option Nat} (h : ptrD o = ptrD o') : o = o' := by
  match o, o', h with
  | none, none, _ => rfl
  | some a, some b, h =>
    have h : (DataW.lit (.int .i64 (a : Int)) : DataW Unit) = .lit (.int .i64 (b : Int)) := h
    injection h with h
    injection h with _ h
    exact congrArg some (by omega)
  | none, some b, h => exact absurd h (by simp [ptrD])
  | some a, none, h => exact absurd h (by simp [ptrD])
theorem ptrE_inv {v : Value} {o : Option Nat} {ps : List MemPlace} (h : ptrE v = some (ptrD o, ps)) : v = ptrV o := by
  obtain ⟨o', rfl, h2⟩ := ptrE_shape h
  injection h2 with h2 _
  rw [ptrD_inj h2]

abbrev FKT : TypeId := 9
abbrev FMT : TypeId := 62
abbrev Tryz.fsLaw : Keyed Tryz.prog FKT := string_keyed Tryz.underlying9
theorem key_ofF (l : Nm) (h : l.length ≤ maxLen) : keyOf Tryz.prog FKT (.string ⟨l.toArray⟩) = some (.string l) := by
  have := keyOf_string_mk (k := FKT) Tryz.underlying9 (s := ⟨l.toArray⟩) (by show l.toArray.size ≤ maxLen; simpa using h)
  simpa using this
theorem Tryz.zeroP (w : World) : (zeroValue 61).run Tryz.prog w = .ok (.pointer none) w := by kernel_rfl

def findM (M : List (Nm × Nat)) (s : Nm) : Option Nat := (M.find? fun e => e.1 == s).map (·.2)
/-- a map that holds just these -/
def Mp (w : World) (b : Nat) (M : List (Nm × Nat)) : Prop :=
  ∃ D, w.ownsMap Tryz.prog FKT ptrE b M.length D ∧ (∀ s, Maps.has D (.string s) = (findM M s).isSome) ∧ (∀ kl, Maps.has D kl = true → ∃ s, kl = .string s) ∧ (∀ s g, findM M s = some g → ∀ z, D.atKey (.string s) z = .lit (.int .i64 g)) ∧ Maps.size D = M.length
theorem tightM {H : Type} {w : World} {P : Program} {k : TypeId} {R : Value → Option (DataW H × List MemPlace)} {b n : Nat} {D : DataW H} (h : w.ownsMap P k R b n D) : w.ownsMap P k R b (Maps.size D) D := by
  obtain ⟨es, clock, hb, F, hs, rfl⟩ := h
  exact ⟨es, clock, hb, F, by simp [Maps.size, length_sorted], rfl⟩
section
variable {w w' : World} {b : Nat} {M M' : List (Nm × Nat)}
theorem Mp.made (w : World) : Mp (w.alloc (.map #[] 0)) w.heap.size [] :=
  ⟨.map [], World.ownsMap_made _ _ _ _, fun s => rfl, (fun kl h => absurd h (by simp [Maps.has])), (fun s g h => absurd h (by simp [findM])), rfl⟩
theorem Mp.lt (h : Mp w b M) : b < w.heap.size := by obtain ⟨D, h1, _⟩ := h; exact h1.lt
theorem Mp.kept {row : Option Nat} (h : Mp w b M) (hg : w.grownBy w' row) (hne : some b ≠ row) : Mp w' b M := by
  obtain ⟨D, h1, h2⟩ := h
  exact ⟨D, h1.kept hg hne, h2⟩
theorem Mp.look (h : Mp w b M) (s : Nm) (hs : s.length ≤ maxLen) : (Instr.lookup FMT (.map (some b)) (.string ⟨s.toArray⟩) false).run Tryz.prog w = .ok (ptrV (findM M s)) w := by
  obtain ⟨D, h1, h2, h3, h4, h5⟩ := h
  obtain ⟨v, ps, hrun, hv⟩ := h1.lookup Tryz.fsLaw Tryz.underlying62 (Tryz.zeroP w) (zd := .nil) (zp := []) rfl (key_ofF s hs)
  rw [hrun]
  congr 1
  refine ptrE_inv (ps := ps) ?_
  rw [hv]
  cases hf : findM M s with
  | none =>
    have := h2 s
    rw [hf] at this
    rw [Maps.atKey_of_not_has this]
    rfl
  | some g => rw [h4 s g hf]; rfl
theorem Mp.len (h : Mp w b M) (ty : TypeId) : (Builtin.len_ #[FMT] ty #[.map (some b)]).run Tryz.prog w = .ok (.int .i64 (M.length : Nat)) w := by
  obtain ⟨D, h1, h2, h3, h4, h5⟩ := h
  have := h1.len Tryz.underlying62 ty
  rw [h5] at this
  exact this
theorem isKey_str (s : Nm) : WideAt.IsKeyLit (.string s) := trivial
/-- a store at a name -/
theorem Mp.put {n : Nat} {s : Nm} {g : Nat} {D : DataW Unit} (h1 : w.ownsMap Tryz.prog FKT ptrE b n D) (h : w'.ownsMap Tryz.prog FKT ptrE b (n + 1) (D.put (.string s) (.lit (.int .i64 g)))) (h2 : ∀ s, Maps.has D (.string s) = (findM M s).isSome) (h3 : ∀ kl, Maps.has D kl = true → ∃ s, kl = .string s) (h4 : ∀ s g, findM M s = some g → ∀ z, D.atKey (.string s) z = .lit (.int .i64 g)) (h5 : Maps.size D = M.length)
    (hM : ∀ t, findM M' t = if t = s then some g else findM M t) (hl : M'.length = if (findM M s).isSome then M.length else M.length + 1) : Mp w' b M' := by
  have hD : IsMap D := h1.isMap
  have hsz : Maps.size (D.put (.string s) (.lit (.int .i64 g))) = M'.length := by
    rw [Maps.size_put (h1.tidy Tryz.fsLaw), h2, h5, hl]
  refine ⟨_, hsz ▸ tightM h, fun t => ?_, fun kl hk => ?_, fun t g' ht z => ?_, hsz⟩
  · rw [hM]
    by_cases e : t = s
    · subst e
      rw [if_pos rfl, Maps.has_put_same hD (isKey_str t)]
      rfl
    · rw [if_neg e, Maps.has_put_other (fun x => e (by injection x)), h2]
  · by_cases e : kl = .string s
    · exact ⟨s, e⟩
    · rw [Maps.has_put_other e] at hk
      exact h3 kl hk
  · rw [hM] at ht
    by_cases e : t = s
    · subst e
      rw [if_pos rfl] at ht
      injection ht with ht
      subst ht
      exact Maps.atKey_put_same hD (isKey_str t) _ _
    · rw [if_neg e] at ht
      rw [Maps.atKey_put_other (fun x => e (by injection x))]
      exact h4 t g' ht z
/-- a name is struck -/
theorem Mp.del {n : Nat} {s : Nm} {D : DataW Unit} (h1 : w.ownsMap Tryz.prog FKT ptrE b n D) (h : w'.ownsMap Tryz.prog FKT ptrE b n (D.del (.string s))) (h2 : ∀ s, Maps.has D (.string s) = (findM M s).isSome) (h3 : ∀ kl, Maps.has D kl = true → ∃ s, kl = .string s) (h4 : ∀ s g, findM M s = some g → ∀ z, D.atKey (.string s) z = .lit (.int .i64 g)) (h5 : Maps.size D = M.length)
    (hM : ∀ t, findM M' t = if t = s then none else findM M t) (hl : M'.length + (if (findM M s).isSome then 1 else 0) = M.length) : Mp w' b M' := by
  have hsz : Maps.size (D.del (.string s)) = M'.length := by
    have := Maps.size_del (k := .string s) (h1.tidy Tryz.fsLaw)
    rw [h2, h5] at this
    omega
  refine ⟨_, hsz ▸ tightM h, fun t => ?_, fun kl hk => ?_, fun t g' ht z => ?_, hsz⟩
  · rw [hM]
    by_cases e : t = s
    · subst e
      rw [if_pos rfl, Maps.has_del_same]
      rfl
    · rw [if_neg e, Maps.has_del_other (fun x => e (by injection x)), h2]
  · by_cases e : kl = .string s
    · exact ⟨s, e⟩
    · rw [Maps.has_del_other e] at hk
      exact h3 kl hk
  · rw [hM] at ht
    by_cases e : t = s
    · subst e
      rw [if_pos rfl] at ht
      cases ht
    · rw [if_neg e] at ht
      rw [Maps.atKey_del_other (fun x => e (by injection x))]
      exact h4 t g' ht z
end

end Go.Proofs.YtiogckgchlnldaaGreat
