/- Joined: MapU. -/
import Derived.Test.YtmcdollkmlcpbaaGreatDoorQ8
import Derived.Outline
import Derived.Maps.Own
import Derived.Maps.OwnSet
import Derived.Maps.RangeWalk
set_option linter.unusedSimpArgs false
set_option linter.unusedVariables false
set_option linter.unusedSimpArgs false
set_option linter.unusedVariables false
namespace Go.Proofs.YtmcdollkmlcpbaaGreatDoor
open Go.RowKit Go.ChangeMaps Go.MapKept
open Go.Maps (Keyed int_keyed keyOf_int_mk)
set_option maxRecDepth 100000
abbrev KU : TypeId := 34
abbrev Tryz.lawU : Keyed Tryz.prog KU := int_keyed Tryz.underlying34
abbrev kuV (x : Nat) : Value := .int .u32 ((x : Nat) : Int)
theorem key_u32 (x : Nat) (h : x < 4294967296) : keyOf Tryz.prog KU (kuV x) = some (.int .u32 (x : Int)) := keyOf_int_mk Tryz.underlying34 (by
 show (decide ((0 : Int) ≤ (x : Int)) && decide ((x : Int) ≤ 2 ^ 32 - 1)) = true
 rw [decide_eq_true (by omega), decide_eq_true (by omega)]
 rfl)
theorem kuV_inj {x y : Nat} (h : kuV x = kuV y) : x = y := by injection h with _ h; omega
section
variable {α : Type}
def lookM (M : List (Nat × α)) (x : Nat) : Option α := (M.find? fun p => p.1 == x).map (·.2)
def putM (M : List (Nat × α)) (x : Nat) (a : α) : List (Nat × α) := if (lookM M x).isSome then M.map (fun p => if p.1 = x then (x, a) else p) else M ++ [(x, a)]
def delM (M : List (Nat × α)) (x : Nat) : List (Nat × α) := M.filter fun p => !(p.1 == x)
theorem lookM_nil (x : Nat) : lookM ([] : List (Nat × α)) x = none := rfl
theorem lookM_cons (p : Nat × α) (M : List (Nat × α)) (x : Nat) : lookM (p :: M) x = if p.1 = x then some p.2 else lookM M x := by
 unfold lookM
 rw [List.find?_cons]
 by_cases h : p.1 = x
 ·rw [if_pos h, show (p.1 == x) = true from beq_iff_eq.2 h]; rfl
 ·rw [if_neg h, show (p.1 == x) = false from beq_eq_false_iff_ne.2 h]
theorem lookM_none {M : List (Nat × α)} {x : Nat} : lookM M x = none ↔ ∀ p ∈ M, p.1 ≠ x := by
 induction M with
 | nil => simp [lookM_nil]
 | cons p M ih =>
  rw [lookM_cons]
  by_cases h : p.1 = x
  ·simp [h]
  ·rw [if_neg h, ih]; simp [h]
theorem lookM_mem {M : List (Nat × α)} {x : Nat} {a : α} (h : lookM M x = some a) : (x, a) ∈ M := by
 induction M with
 | nil => cases h
 | cons p M ih =>
  rw [lookM_cons] at h
  by_cases hp : p.1 = x
  ·rw [if_pos hp] at h
   injection h with h
   rw [← hp, ← h]; exact List.mem_cons_self
  ·rw [if_neg hp] at h; exact List.mem_cons_of_mem _ (ih h)
theorem lookM_of_mem {M : List (Nat × α)} (hn : (M.map Prod.fst).Nodup) {p : Nat × α} (h : p ∈ M) : lookM M p.1 = some p.2 := by
 induction M with
 | nil => cases h
 | cons q M ih =>
  rw [List.map_cons, List.nodup_cons] at hn
  rw [lookM_cons]
  rcases List.mem_cons.1 h with rfl | h
  ·rw [if_pos rfl]
  ·rw [if_neg (fun e => hn.1 (by rw [e]; exact List.mem_map_of_mem h))]
   exact ih hn.2 h
theorem lookM_append (M N : List (Nat × α)) (x : Nat) : lookM (M ++ N) x = (lookM M x).or (lookM N x) := by
 induction M with
 | nil => rfl
 | cons p M ih =>
  rw [List.cons_append, lookM_cons, lookM_cons, ih]
  split <;> rfl
theorem lookM_map {β : Type} (f : Nat → α → β) (M : List (Nat × α)) (x : Nat) : lookM (M.map fun p => (p.1, f p.1 p.2)) x = (lookM M x).map (f x) := by
 induction M with
 | nil => rfl
 | cons p M ih =>
  rw [List.map_cons, lookM_cons, lookM_cons, ih]
  by_cases h : p.1 = x
  ·rw [if_pos h, if_pos h, h]; rfl
  ·rw [if_neg h, if_neg h]
theorem look_put (M : List (Nat × α)) (x y : Nat) (a : α) : lookM (putM M x a) y = if y = x then some a else lookM M y := by
 unfold putM
 by_cases h : (lookM M x).isSome = true
 ·rw [if_pos h]
  have e : M.map (fun p => if p.1 = x then (x, a) else p) = M.map (fun p => (p.1, (fun k b => if k = x then a else b) p.1 p.2)) := List.map_congr_left fun p _ => by
   by_cases e : p.1 = x
   ·rw [if_pos e]; simp [e]
   ·rw [if_neg e]; simp [e]
  rw [e, lookM_map (fun k b => if k = x then a else b)]
  by_cases hy : y = x
  ·rw [if_pos hy, hy]
   cases hl : lookM M x with
   | none => rw [hl] at h; cases h
   | some b => simp
  ·rw [if_neg hy]
   cases lookM M y <;> simp [hy]
 ·rw [if_neg h, lookM_append, lookM_cons, lookM_nil]
  have hn : lookM M x = none := by cases hl : lookM M x with
   | none => rfl
   | some b => rw [hl] at h; exact absurd rfl h
  by_cases hy : y = x
  ·rw [if_pos hy, hy, hn]; simp
  ·rw [if_neg hy, if_neg (fun e => hy e.symm)]
   cases lookM M y <;> rfl
theorem put_keys (M : List (Nat × α)) (x : Nat) (a : α) : (putM M x a).map Prod.fst = if (lookM M x).isSome then M.map Prod.fst else M.map Prod.fst ++ [x] := by
 unfold putM
 split
 ·rw [List.map_map]
  exact List.map_congr_left fun p _ => by by_cases e : p.1 = x <;> simp [e]
 ·rw [List.map_append]; rfl
theorem at_index {M : List (Nat × α)} (hn : (M.map Prod.fst).Nodup) {j : Nat} {p : Nat × α} (h : M[j]? = some p) {i : Nat} {q : Nat × α} (hq : M[i]? = some q) (he : q.1 = p.1) : i = j := by
 obtain ⟨h1, h2⟩ := List.getElem?_eq_some_iff.1 h
 obtain ⟨h3, h4⟩ := List.getElem?_eq_some_iff.1 hq
 rcases Nat.lt_trichotomy i j with h5 | h5 | h5
 ·exact absurd (by rw [List.getElem_map, List.getElem_map, h2, h4, he]) (List.pairwise_iff_getElem.1 hn i j (by simpa using h3) (by simpa using h1) h5)
 ·exact h5
 ·exact absurd (by rw [List.getElem_map, List.getElem_map, h2, h4, he]) (List.pairwise_iff_getElem.1 hn j i (by simpa using h1) (by simpa using h3) h5)
theorem put_at {M : List (Nat × α)} (hn : (M.map Prod.fst).Nodup) {j : Nat} {p : Nat × α} (h : M[j]? = some p) (a : α) : putM M p.1 a = M.set j (p.1, a) := by
 unfold putM
 rw [if_pos (by rw [lookM_of_mem hn (List.mem_of_getElem? h)]; rfl)]
 refine List.ext_getElem? fun i => ?_
 rw [List.getElem?_map, List.getElem?_set]
 by_cases e : j = i
 ·subst e
  rw [if_pos rfl, h, if_pos (List.getElem?_eq_some_iff.1 h).1]
  simp
 ·rw [if_neg e]
  cases hq : M[i]? with
  | none => rfl
  | some q =>
   rw [Option.map_some, if_neg (fun e1 => e (at_index hn h hq e1).symm)]
end
def kv (e : MapEntry) : Value × Value := (e.key, e.val)
section
variable {α : Type} (vE : α → Value)
def kvM (p : Nat × α) : Value × Value := (kuV p.1, vE p.2)
def Mu (w : World) (b : Nat) (M : List (Nat × α)) : Prop :=
 ∃ (es : Array MapEntry) (clock : Nat), w.heap[b]? = some (.map es clock) ∧ Stamped es clock ∧ es.toList.map kv = M.map (kvM vE) ∧ ∀ p ∈ M, p.1 < 4294967296
def Ru (w : World) (b r : Nat) (M : List (Nat × α)) (lf : Nat → Bool) : Prop :=
 ∃ (es : Array MapEntry) (clock since : Nat) (seen : Array Nat) (c0 : Nat), w.heap[b]? = some (.map es clock) ∧ Stamped es clock ∧ es.toList.map kv = M.map (kvM vE) ∧ (∀ p ∈ M, p.1 < 4294967296) ∧
  w.heap[r]? = some (.mapIter (some b) since seen c0) ∧ (∀ x ∈ es.toList, x.born < since) ∧ since ≤ c0 ∧ since ≤ clock ∧ ∀ x ∈ es.toList, ∀ k : Nat, x.key = kuV k → lf k = !seen.contains x.born
variable {vE}
section
variable {w w' : World} {b r : Nat} {M : List (Nat × α)} {lf : Nat → Bool} {es : Array MapEntry} {clock : Nat}
theorem kv_nodup (hS : Stamped es clock) (hM : es.toList.map kv = M.map (kvM vE)) : (M.map Prod.fst).Nodup := by
 have h1 := hS.2.2
 have h2 : es.toList.map (·.key) = (M.map Prod.fst).map kuV := by
  have := congrArg (List.map Prod.fst) hM
  rw [List.map_map, List.map_map] at this
  rw [List.map_map]
  exact this
 rw [h2, List.Nodup, List.pairwise_map] at h1
 exact h1.imp fun h e => h (congrArg kuV e)
theorem kv_at (hM : es.toList.map kv = M.map (kvM vE)) {j : Nat} {e : MapEntry} (h : es.toList[j]? = some e) : ∃ p, M[j]? = some p ∧ e.key = kuV p.1 ∧ e.val = vE p.2 := by
 have h1 : (es.toList.map kv)[j]? = some (kv e) := by rw [List.getElem?_map, h]; rfl
 rw [hM, List.getElem?_map] at h1
 cases hp : M[j]? with
 | none => rw [hp] at h1; cases h1
 | some p =>
  rw [hp] at h1
  injection h1 with h1
  injection h1 with h1 h2
  exact ⟨p, rfl, h1.symm, h2.symm⟩
theorem kv_keys (hM : es.toList.map kv = M.map (kvM vE)) (hlt : ∀ p ∈ M, p.1 < 4294967296) : ∀ e ∈ es.toList, ∃ l, keyOf Tryz.prog KU e.key = some l := fun e he => by
 obtain ⟨j, hj⟩ := List.getElem?_of_mem he
 obtain ⟨p, hp, hk, -⟩ := kv_at hM hj
 exact ⟨_, by rw [hk]; exact key_u32 p.1 (hlt p (List.mem_of_getElem? hp))⟩
theorem kv_find (w : World) (hS : Stamped es clock) (hM : es.toList.map kv = M.map (kvM vE)) (hlt : ∀ p ∈ M, p.1 < 4294967296) {x : Nat} (hx : x < 4294967296) :
  ((Instr.findKey KU (kuV x) es.toList).run Tryz.prog w = .ok none w ∧ lookM M x = none ∧ ∀ e ∈ es.toList, e.key ≠ kuV x) ∨
  ∃ j e p, (Instr.findKey KU (kuV x) es.toList).run Tryz.prog w = .ok (some (j, e.val)) w ∧ es.toList[j]? = some e ∧ M[j]? = some p ∧ p.1 = x ∧ e.key = kuV x ∧ e.val = vE p.2 ∧ lookM M x = some p.2 := by
 rcases Tryz.lawU.find w (key_u32 x hx) es.toList (kv_keys hM hlt) with ⟨h1, h2⟩ | ⟨j, e, h1, h2, h3⟩
 ·refine .inl ⟨h1, lookM_none.2 fun p hp e => ?_, h2⟩
  obtain ⟨j, hj⟩ := List.getElem?_of_mem hp
  have h4 : (M.map (kvM vE))[j]? = some (kvM vE p) := by rw [List.getElem?_map, hj]; rfl
  rw [← hM, List.getElem?_map] at h4
  cases he : es.toList[j]? with
  | none => rw [he] at h4; cases h4
  | some e0 =>
   rw [he] at h4
   injection h4 with h4
   injection h4 with h4 _
   exact h2 e0 (List.mem_of_getElem? he) (by rw [h4, e])
 ·obtain ⟨p, hp, hk, hv⟩ := kv_at hM h2
  have hpx : p.1 = x := kuV_inj (hk.symm.trans h3)
  refine .inr ⟨j, e, p, h1, h2, hp, hpx, h3, hv, ?_⟩
  rw [← hpx]
  exact lookM_of_mem (kv_nodup hS hM) (List.mem_of_getElem? hp)
theorem Mu.lt (h : Mu vE w b M) : b < w.heap.size := by
 obtain ⟨es, clock, hb, _⟩ := h
 exact (Array.getElem?_eq_some_iff.1 hb).1
theorem Mu.nodup (h : Mu vE w b M) : (M.map Prod.fst).Nodup := by
 obtain ⟨es, clock, hb, hS, hM, _⟩ := h
 exact kv_nodup hS hM
theorem Mu.tou {F : Nat → Prop} (h : Mu vE w b M) (t : Tou F w w') (hb : ¬ F b) : Mu vE w' b M := by
 have hl := h.lt
 obtain ⟨es, clock, h1, h2⟩ := h
 exact ⟨es, clock, (t.block b hl hb).trans h1, h2⟩
theorem Mu.made (w : World) : Mu vE (w.alloc (.map #[] 0)) w.heap.size ([] : List (Nat × α)) := ⟨#[], 0, (MapKept.heap_alloc w _).1, stamped_empty 0, rfl, fun p hp => by cases hp⟩
theorem Ru.ne (h : Ru vE w b r M lf) : r ≠ b := by
 obtain ⟨es, clock, since, seen, c0, hb, _, _, _, hr, _⟩ := h
 intro e
 rw [e, hb] at hr
 cases hr
variable {mt et : TypeId}
theorem Mu.look1 (h : Mu vE w b M) (ht : Tryz.prog.underlying mt = some (.map KU et)) {z : Value} (hz : (zeroValue et).run Tryz.prog w = .ok z w) (x : Nat) (hx : x < 4294967296) :
  (Instr.lookup mt (.map (some b)) (kuV x) false).run Tryz.prog w = .ok (((lookM M x).map vE).getD z) w := by
 obtain ⟨es, clock, hb, hS, hM, hk⟩ := h
 rcases kv_find w hS hM hk hx with ⟨h1, h2, -⟩ | ⟨j, e, p, h1, h2, h3, h4, h5, h6, h7⟩
 ·rw [h2]
  simp [Instr.lookup, run_underlying ht, MapKept.run_getObj_map hb, Tryz.lawU.check w _ (key_u32 x hx), h1, hz, Result.andThen]
 ·rw [h7]
  simp [Instr.lookup, run_underlying ht, MapKept.run_getObj_map hb, Tryz.lawU.check w _ (key_u32 x hx), h1, Result.andThen, h6]
theorem Mu.len (h : Mu vE w b M) (ht : Tryz.prog.underlying mt = some (.map KU et)) (ty : TypeId) : (Builtin.len_ #[mt] ty #[.map (some b)]).run Tryz.prog w = .ok (.int .i64 (M.length : Nat)) w := by
 obtain ⟨es, clock, hb, hS, hM, hk⟩ := h
 have : es.size = M.length := by have := congrArg List.length hM; simpa using this
 simp [Builtin.len_, run_underlying ht, MapKept.run_getObj_map hb, Result.andThen, this, goInt]
theorem kv_set (hM : es.toList.map kv = M.map (kvM vE)) {j : Nat} {e0 : MapEntry} {x : Nat} {a : α} (h2 : es.toList[j]? = some e0) : (es.modify j (fun e' => { e' with key := kuV x, val := vE a })).toList.map kv = (M.set j (x, a)).map (kvM vE) := by
 rw [Array.toList_modify, modify_eq_set _ _ _ _ h2, List.map_set, hM, List.map_set]
 rfl
theorem set_lt {j x : Nat} {a : α} (hx : x < 4294967296) (hk : ∀ p ∈ M, p.1 < 4294967296) : ∀ p ∈ M.set j (x, a), p.1 < 4294967296 := fun p hp => by
 rcases List.mem_or_eq_of_mem_set hp with h | h
 ·exact hk p h
 ·rw [h]; exact hx
theorem Mu.put (h : Mu vE w b M) (ht : Tryz.prog.underlying mt = some (.map KU et)) (hn : M.length < maxLen) (x : Nat) (hx : x < 4294967296) (a : α) :
  ∃ w', (Instr.mapUpdate mt (.map (some b)) (kuV x) (vE a)).run Tryz.prog w = .ok () w' ∧ Mu vE w' b (putM M x a) ∧ w.grownBy w' (some b) := by
 obtain ⟨es, clock, hb, hS, hM, hk⟩ := h
 have hlen : es.size = M.length := by have := congrArg List.length hM; simpa using this
 rcases kv_find w hS hM hk hx with ⟨h1, h2, h8⟩ | ⟨j, e, p, h1, h2, h3, h4, h5, h6, h7⟩
 ·refine ⟨setBlock w b (.map (es.push ⟨kuV x, vE a, clock⟩) (clock + 1)), ?_, ⟨_, _, heap_setBlock_same hb _, stamped_push hS h8, ?_, ?_⟩, ⟨rfl, rfl, rfl, by simp [setBlock], fun i _ hi => heap_setBlock_other hb _ (fun e => hi (by rw [e]))⟩⟩
  ·simp [Instr.mapUpdate, run_underlying ht, MapKept.run_getObj_map hb, Tryz.lawU.check w false (key_u32 x hx), h1, MapKept.run_setObj_map _ hb, Result.andThen, setBlock]
  ·unfold putM
   rw [if_neg (by rw [h2]; simp), Array.toList_push, List.map_append, List.map_append, hM]
   rfl
  ·unfold putM
   rw [if_neg (by rw [h2]; simp)]
   intro p hp
   rcases List.mem_append.1 hp with hp | hp
   ·exact hk p hp
   ·rw [List.mem_singleton.1 hp]; exact hx
 ·have hj : es[j]? = some e := by simpa using h2
  have hp := put_at (kv_nodup hS hM) h3 a
  rw [h4] at hp
  refine ⟨setBlock w b (.map (es.modify j (fun e' => { e' with key := kuV x, val := vE a })) clock), ?_, ⟨_, _, heap_setBlock_same hb _, stamped_modify hS _ _ (fun _ _ => rfl) (fun e' _ he' => by rw [hj] at he'; cases he'; exact h5.symm), ?_, ?_⟩, ⟨rfl, rfl, rfl, by simp [setBlock], fun i _ hi => heap_setBlock_other hb _ (fun e => hi (by rw [e]))⟩⟩
  ·simp [Instr.mapUpdate, run_underlying ht, MapKept.run_getObj_map hb, Tryz.lawU.check w false (key_u32 x hx), h1, hj, h5, Tryz.lawU.stays w (key_u32 x hx), MapKept.run_setObj_map _ hb, Result.andThen, setBlock]
  ·rw [hp]; exact kv_set hM h2
  ·rw [hp]; exact set_lt hx hk
theorem Mu.range (h : Mu vE w b M) (ht : Tryz.prog.underlying mt = some (.map KU et)) :
  ∃ w', (Instr.range mt (.map (some b))).run Tryz.prog w = .ok (.pointer (some ⟨w.heap.size, 0, none⟩)) w' ∧ Ru vE w' b w.heap.size M (fun _ => true) ∧ w.grownBy w' none ∧ w'.heap.size = w.heap.size + 1 := by
 have hlt := h.lt
 obtain ⟨es, clock, hb, hS, hM, hk⟩ := h
 exact ⟨_, run_range_map w mt KU et b es clock ht hb, ⟨es, clock, clock, #[], clock, ((MapKept.heap_alloc w _).2 b hlt).trans hb, hS, hM, hk, (MapKept.heap_alloc w _).1, hS.1, Nat.le_refl _, Nat.le_refl _, fun x hx k hxk => by simp⟩, World.grownBy_alloc w _ none, by simp⟩
theorem Ru.next (h : Ru vE w b r M lf) (ty : TypeId) :
  ((∀ p ∈ M, lf p.1 = false) ∧ (Instr.next (.pointer (some ⟨r, 0, none⟩)) false ty).run Tryz.prog w = .ok (.tuple #[.bool false]) w) ∨
  ∃ p w', p ∈ M ∧ lf p.1 = true ∧ (Instr.next (.pointer (some ⟨r, 0, none⟩)) false ty).run Tryz.prog w = .ok (.tuple #[.bool true, kuV p.1, vE p.2]) w' ∧ Ru vE w' b r M (fun k => lf k && !(k == p.1)) ∧ w.grownBy w' (some r) ∧ w'.heap.size = w.heap.size ∧
   (Instr.entry (.pointer (some ⟨r, 0, none⟩))).run Tryz.prog w' = .ok (.tuple #[kuV p.1, vE p.2]) w' := by
 have hne := h.ne
 obtain ⟨es, clock, since, seen, c0, hb, hS, hM, hk, hr, hold, hsc, hsk, hlf⟩ := h
 rcases run_next_at (P := Tryz.prog) w ty r b since c0 seen es clock hr hb hold hsc with ⟨h0, hrun⟩ | ⟨e, he, w1, hal, hrun⟩
 ·refine .inl ⟨fun p hp => ?_, hrun⟩
  obtain ⟨j, hj⟩ := List.getElem?_of_mem hp
  have h4 : (M.map (kvM vE))[j]? = some (kvM vE p) := by rw [List.getElem?_map, hj]; rfl
  rw [← hM, List.getElem?_map] at h4
  cases he : es.toList[j]? with
  | none => rw [he] at h4; cases h4
  | some e0 =>
   rw [he] at h4
   injection h4 with h4
   injection h4 with h4 _
   rw [hlf e0 (List.mem_of_getElem? he) p.1 h4, all_seen es seen h0 e0 (List.mem_of_getElem? he)]
   rfl
 ·obtain ⟨hem, hes⟩ := mem_left he
  obtain ⟨j, hj⟩ := List.getElem?_of_mem hem
  obtain ⟨p, hp, hkey, hval⟩ := kv_at hM hj
  have hr1 : w1.heap[r]? = some (.mapIter (some b) since seen c0) := by rcases hal with rfl | rfl <;> exact hr
  have hb1 : w1.heap[b]? = some (.map es clock) := by rcases hal with rfl | rfl <;> exact hb
  have hset := heap_set (o' := .mapIter (some b) since (seen.push e.born) clock) hr1
  have hb' : (setBlock w1 r (.mapIter (some b) since (seen.push e.born) clock)).heap[b]? = some (.map es clock) := (hset.2 b (fun e1 => hne e1.symm)).trans hb1
  have hst := (stamped_iff es clock).1 hS
  rw [hkey, hval] at hrun
  refine .inr ⟨p, _, List.mem_of_getElem? hp, ?_, hrun, ⟨es, clock, since, seen.push e.born, clock, hb', hS, hM, hk, hset.1, hold, hsk, hsk, fun x hx k hxk => ?_⟩, ?_, ?_, ?_⟩
  ·rw [hlf e hem p.1 hkey, hes]; rfl
  ·show (lf k && !(k == p.1)) = _
   rw [hlf x hx k hxk, contains_push]
   have e1 : (k == p.1) = (x.born == e.born) := by
    by_cases hbe : x.born = e.born
    ·obtain rfl := born_inj hst.2.1 hx hem hbe
     rw [beq_iff_eq.2 hbe, beq_iff_eq.2 (kuV_inj (hxk.symm.trans hkey))]
    ·rw [beq_eq_false_iff_ne.2 hbe]
     refine beq_eq_false_iff_ne.2 fun e2 => hbe ?_
     have : x = e := entry_eq_of_key hst.2.2 hx hem (by rw [hxk, hkey, e2])
     rw [this]
   rw [e1]
   cases seen.contains x.born <;> cases (x.born == e.born) <;> rfl
  ·rcases hal with rfl | rfl <;> exact ⟨rfl, rfl, rfl, by simp [setBlock], fun i _ hi => hset.2 i (fun e1 => hi (by rw [e1]))⟩
  ·rcases hal with rfl | rfl <;> simp [setBlock]
  ·rw [← hkey, ← hval]
   exact run_entry_at _ r b since seen es clock e hset.1 hb' hem hst.2.1
end
def thMu (vE : α → Value) (b : Nat) (M : List (Nat × α)) : Kt := ⟨fun w => Mu vE w b M, fun k => k = b, fun h t hF => h.tou t (hF b rfl), fun h k e => by subst e; exact h.lt⟩
end
section
variable {α : Type} {vE : α → Value} {w : World} {ops : Array Oper} {rest : List Oper} {o : Oper} {a : Act} {Q : Exit → Act → World → Prop} {b r : Nat} {M : List (Nat × α)} {lf : Nat → Bool} {mt et : TypeId}
theorem step_putU (hg : o.guard = none) (m x v : Operand) (hop : o.op = Op.mapUpdate mt m x v) (ht : Tryz.prog.underlying mt = some (.map KU et)) (hm : a.eval m = .map (some b)) (h : Mu vE w b M) (hn : M.length < maxLen) (k : Nat) (hk : k < 4294967296) (hx : a.eval x = kuV k) (c : α) (hv : a.eval v = vE c)
  (hK : ∀ w', Mu vE w' b (putM M k c) → w.grownBy w' (some b) → wpList Tryz.prog ops Q rest (a.put o.dst undef) w') : wpList Tryz.prog ops Q (o :: rest) a w := by
 refine wpList_plain hg fun K' hK' => ?_
 obtain ⟨w', hrun, r1, r2⟩ := h.put ht hn k hk c
 unfold Oper.wp
 simp [execOp, hop, hm, hx, hv, hrun, Result.andThen]
 exact hK' _ _ (hK w' r1 r2)
end
end Go.Proofs.YtmcdollkmlcpbaaGreatDoor
