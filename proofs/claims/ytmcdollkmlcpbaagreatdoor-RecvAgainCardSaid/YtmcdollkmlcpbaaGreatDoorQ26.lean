/- Joined: MathBk, MathBk2, MathBk3. -/
import Derived.Test.YtmcdollkmlcpbaaGreatDoorQ2
import Derived.Test.YtmcdollkmlcpbaaGreatDoorQ17
import Derived.Test.YtmcdollkmlcpbaaGreatDoorQ1
set_option linter.unusedSimpArgs false
set_option linter.unusedVariables false
set_option linter.unusedSimpArgs false
set_option linter.unusedVariables false
namespace Go.Proofs.YtmcdollkmlcpbaaGreatDoor
abbrev CsT := List (List Sm)
def lastL (C : CsT) : List Sm := (C.getLast?).getD []
theorem cs_split {C : CsT} (h : C ≠ []) : C.dropLast ++ [lastL C] = C := by
 unfold lastL
 rw [List.getLast?_eq_some_getLast h, Option.getD_some]
 exact List.dropLast_concat_getLast h
theorem cs_flat {C : CsT} (h : C ≠ []) : C.flatten = C.dropLast.flatten ++ lastL C := by
 conv => lhs; rw [← cs_split h]
 rw [List.flatten_append]
 simp
def setLast (C : CsT) (L : List Sm) (closed : Bool) : CsT := C.dropLast ++ (if closed then [L, []] else [L])
theorem setLast_flat (C : CsT) (L : List Sm) (b : Bool) : (setLast C L b).flatten = C.dropLast.flatten ++ L := by
 unfold setLast
 rw [List.flatten_append]
 cases b <;> simp
structure OkC1 (C : CsT) : Prop where
 ne : C ≠ []
 full : ∀ L ∈ C.dropLast, L ≠ []
 inc : InC C.flatten
 rise : C.flatten.Pairwise fun a b => a.1 < b.1
 len : C.flatten.length ≤ 1000
theorem flat_mem {C : CsT} {L : List Sm} (h : L ∈ C) {s : Sm} (hs : s ∈ L) : s ∈ C.flatten := List.mem_flatten.2 ⟨L, h, hs⟩
theorem OkC1.incL {C : CsT} (h : OkC1 C) {L : List Sm} (hL : L ∈ C) : InC L := fun s hs => h.inc s (flat_mem hL hs)
theorem sub_flat {C : CsT} {L : List Sm} (h : L ∈ C) : L.Sublist C.flatten := by
 induction C with
 | nil => cases h
 | cons x C ih =>
  rw [List.flatten_cons]
  rcases List.mem_cons.1 h with rfl | h
  ·exact List.sublist_append_left _ _
  ·exact (ih h).trans (List.sublist_append_right _ _)
theorem OkC1.riseL {C : CsT} (h : OkC1 C) {L : List Sm} (hL : L ∈ C) : L.Pairwise fun a b => a.1 < b.1 := h.rise.sublist (sub_flat hL)
theorem OkC1.lenL {C : CsT} (h : OkC1 C) {L : List Sm} (hL : L ∈ C) : L.length ≤ 1000 := Nat.le_trans (sub_flat hL).length_le h.len
theorem len_drop : ∀ {C : CsT}, (∀ L ∈ C, L ≠ []) → C.length ≤ C.flatten.length
 | [], _ => Nat.zero_le _
 | L :: C, h => by
  have h1 := len_drop (C := C) (fun L hL => h L (List.mem_cons_of_mem _ hL))
  have h2 : 0 < L.length := List.length_pos_iff.2 (h L List.mem_cons_self)
  rw [List.flatten_cons, List.length_append, List.length_cons]
  omega
theorem OkC1.few {C : CsT} (h : OkC1 C) : C.length ≤ 1001 := by
 have h1 := len_drop h.full
 have h2 := h.len
 rw [cs_flat h.ne, List.length_append] at h2
 rw [List.length_dropLast] at h1
 omega
theorem OkC1.lastM {C : CsT} (h : OkC1 C) : lastL C ∈ C := by
 have h1 : lastL C ∈ C.dropLast ++ [lastL C] := by simp
 rwa [cs_split h.ne] at h1
theorem okC_none : OkC1 [[]] := ⟨by simp, fun L h => (by cases h), fun s h => (by simp at h), by simp, by simp⟩
theorem OkC1.set {C : CsT} (h : OkC1 C) {L : List Sm} {b : Bool} (hb : b = true → L ≠ []) (hi : InC L) (hr : (C.dropLast.flatten ++ L).Pairwise fun a b => a.1 < b.1) (hn : C.dropLast.flatten.length + L.length ≤ 1000) : OkC1 (setLast C L b) := by
 have hd : ∀ M ∈ C.dropLast, M ∈ C := fun M hM => List.dropLast_subset C hM
 refine ⟨?_, fun M hM => ?_, ?_, ?_, ?_⟩
 ·unfold setLast; cases b <;> simp
 ·have : M ∈ C.dropLast ∨ (b = true ∧ M = L) := by
   unfold setLast at hM
   cases b
   ·rw [if_neg (by simp), List.dropLast_concat] at hM; exact .inl hM
   ·rw [if_pos rfl, show C.dropLast ++ [L, []] = (C.dropLast ++ [L]) ++ [[]] by simp, List.dropLast_concat] at hM
    rcases List.mem_append.1 hM with hM | hM
    ·exact .inl hM
    ·exact .inr ⟨rfl, by simpa using hM⟩
  rcases this with h1 | ⟨h1, rfl⟩
  ·exact h.full M h1
  ·exact hb h1
 ·rw [setLast_flat]
  intro s hs
  rcases List.mem_append.1 hs with hs | hs
  ·obtain ⟨M, hM, hs⟩ := List.mem_flatten.1 hs
   exact h.inc s (flat_mem (hd M hM) hs)
  ·exact hi s hs
 ·rw [setLast_flat]; exact hr
 ·rw [setLast_flat, List.length_append]; exact hn
def lateB (C : CsT) (t : Int) : Bool := match C.flatten.getLast? with
 | none => true
 | some x => decide (x.1 < t)
theorem lateB_some {C : CsT} {t : Int} {x : Sm} (h : C.flatten.getLast? = some x) : lateB C t = decide (x.1 < t) := by unfold lateB; rw [h]
def opensB (C : CsT) (t : Int) : Bool := match C.dropLast.flatten.getLast? with
 | none => true
 | some x => decide (x.1 < t)
theorem opensB_none {C : CsT} {t : Int} (h : C.dropLast.flatten.getLast? = none) : opensB C t = true := by unfold opensB; rw [h]
theorem opensB_some {C : CsT} {t : Int} {x : Sm} (h : C.dropLast.flatten.getLast? = some x) : opensB C t = decide (x.1 < t) := by unfold opensB; rw [h]
theorem late_opens {C : CsT} (hC : C ≠ []) (h : lastL C = []) (t : Int) : lateB C t = opensB C t := by
 unfold lateB opensB
 rw [cs_flat hC, h, List.append_nil]
theorem rise_snoc {l : List Sm} {x : Sm} (h : l.Pairwise fun a b => a.1 < b.1) (hl : ∀ y, l.getLast? = some y → y.1 < x.1) : (l ++ [x]).Pairwise fun a b => a.1 < b.1 := by
 refine List.pairwise_append.2 ⟨h, by simp, fun a ha b hb => ?_⟩
 rw [List.mem_singleton.1 hb]
 have hne : l ≠ [] := List.ne_nil_of_mem ha
 have hl := hl _ (List.getLast?_eq_some_getLast hne)
 obtain ⟨i, hi, rfl⟩ := List.getElem_of_mem ha
 rw [List.getLast_eq_getElem] at hl
 rcases Nat.lt_or_ge i (l.length - 1) with h1 | h1
 ·exact Int.lt_trans (List.pairwise_iff_getElem.1 h i (l.length - 1) hi (by omega) h1) hl
 ·have : i = l.length - 1 := by omega
  subst this
  exact hl
theorem late_put {C : CsT} (h : OkC1 C) {x : Sm} (ht : lateB C x.1 = true) : (C.dropLast.flatten ++ (lastL C ++ [x])).Pairwise fun a b => a.1 < b.1 := by
 rw [← List.append_assoc, ← cs_flat h.ne]
 exact rise_snoc h.rise (fun y hy => by rw [lateB_some hy] at ht; exact of_decide_eq_true ht)
def putCs (ch : Nat) (C : CsT) (x : Sm) : CsT := setLast C (lastL C ++ [x]) (decide ((lastL C).length + 1 = ch))
theorem putCs_flat (ch : Nat) {C : CsT} (h : C ≠ []) (x : Sm) : (putCs ch C x).flatten = C.flatten ++ [x] := by
 unfold putCs
 rw [setLast_flat, cs_flat h, List.append_assoc]
theorem OkC1.put {ch : Nat} {C : CsT} (h : OkC1 C) {x : Sm} (hx : in64 x.1 ∧ x.2 < 18446744073709551616) (ht : lateB C x.1 = true) (hn : C.flatten.length < 1000) : OkC1 (putCs ch C x) := by
 refine h.set (fun _ => by simp) (fun s hs => ?_) (late_put h ht) ?_
 ·rcases List.mem_append.1 hs with hs | hs
  ·exact h.incL h.lastM s hs
  ·rw [List.mem_singleton.1 hs]; exact hx
 ·rw [cs_flat h.ne, List.length_append] at hn
  rw [List.length_append, List.length_singleton]
  omega
def hasC (C : CsT) (pc pb pn : Nat) : Bool := match C[pc]? with
 | none => false
 | some L => decide (pn + (if pc + 1 < C.length then 1 else 0) ≤ L.length) && decide (pb = endN L pn)
def sumC (C : CsT) (pc pb : Nat) : Nat := moreR 0 ((bitsL ((C[pc]?).getD [])).take pb)
def totC (C : CsT) : Nat := (C.map fun L => (bitsL L).length).sum
def endC (C : CsT) : Nat × Nat × Nat := (C.length - 1, endN (lastL C) (lastL C).length, (lastL C).length)
theorem totC_app (C D : CsT) : totC (C ++ D) = totC C + totC D := by unfold totC; rw [List.map_append, List.sum_append]
theorem totC_one (L : List Sm) : totC [L] = (bitsL L).length := by simp [totC]
theorem totC_le {C : CsT} (h : InC C.flatten) (hl : C.flatten.length ≤ 1000) : totC C ≤ 146 * C.flatten.length := by
 induction C with
 | nil => exact Nat.zero_le _
 | cons L C ih =>
  rw [List.flatten_cons] at h hl
  rw [List.length_append] at hl
  have h1 := ih (fun s hs => h s (List.mem_append.2 (.inr hs))) (by omega)
  have h2 := (rows_ok L ec0 ok0 (Int.le_refl _) (by show (0 : Int) + _ ≤ _; omega) (fun s hs => h s (List.mem_append.2 (.inl hs)))).2.2.1
  rw [show L :: C = [L] ++ C from rfl, totC_app, totC_one, List.flatten_append, List.length_append, List.flatten_singleton]
  have h3 : (bitsL L).length ≤ 146 * L.length := h2
  omega
theorem OkC1.tot {C : CsT} (h : OkC1 C) : totC C ≤ 146000 := by have := totC_le h.inc h.len; have := h.len; omega
theorem hasC_true {C : CsT} {pc pb pn : Nat} (h : hasC C pc pb pn = true) : ∃ L, C[pc]? = some L ∧ pn ≤ L.length ∧ pb = endN L pn ∧ (pc + 1 < C.length → pn < L.length) := by
 unfold hasC at h
 cases hp : C[pc]? with
 | none => rw [hp] at h; cases h
 | some p =>
  rw [hp] at h
  simp only [Bool.and_eq_true, decide_eq_true_eq] at h
  refine ⟨p, rfl, by omega, h.2, fun h1 => ?_⟩
  rw [if_pos h1] at h
  omega
theorem hasC_of {C : CsT} {pc pn : Nat} {L : List Sm} (hL : C[pc]? = some L) (h : pn ≤ L.length) (h2 : pc + 1 < C.length → pn < L.length) : hasC C pc (endN L pn) pn = true := by
 unfold hasC
 rw [hL]
 refine Bool.and_eq_true_iff.2 ⟨decide_eq_true ?_, decide_eq_true rfl⟩
 split
 ·rename_i h1; have := h2 h1; omega
 ·omega
structure BD where
 mo : Nat
 ch : Nat
 M : List (Nat × CsT)
def BD.at_ (D : BD) (x : Nat) : CsT := (lookM D.M x).getD [[]]
structure OkD (D : BD) : Prop where
 mo1 : 1 ≤ D.mo
 mo2 : D.mo ≤ 64
 ch1 : 1 ≤ D.ch
 ch2 : D.ch ≤ 24
 few : D.M.length ≤ D.mo
 nd : (D.M.map Prod.fst).Nodup
 key : ∀ p ∈ D.M, p.1 < 4294967296
 ok : ∀ p ∈ D.M, OkC1 p.2
 some_ : ∀ p ∈ D.M, p.2.flatten ≠ []
theorem OkD.at_ {D : BD} (h : OkD D) (x : Nat) : OkC1 (D.at_ x) := by
 unfold BD.at_
 cases hl : lookM D.M x with
 | none => exact okC_none
 | some C => exact h.ok (x, C) (lookM_mem hl)
def mayD (D : BD) (x : Nat) (t : Int) : Nat := if (lookM D.M x).isNone ∧ D.mo ≤ D.M.length then 121 else if lateB (D.at_ x) t then 0 else 120
def putD (D : BD) (x : Nat) (s : Sm) : BD := if mayD D x s.1 = 0 then ⟨D.mo, D.ch, putM D.M x (putCs D.ch (D.at_ x) s)⟩ else D
end Go.Proofs.YtmcdollkmlcpbaaGreatDoor
set_option linter.unusedSimpArgs false
set_option linter.unusedVariables false
namespace Go.Proofs.YtmcdollkmlcpbaaGreatDoor
section
variable {α β : Type}
theorem delM_none {M : List (Nat × α)} {x : Nat} (h : ∀ p ∈ M, p.1 ≠ x) : delM M x = M := by
 unfold delM
 rw [List.filter_eq_self]
 intro p hp
 simp [h p hp]
theorem perm_look {M : List (Nat × α)} {x : Nat} {a : α} (hn : (M.map Prod.fst).Nodup) (h : lookM M x = some a) : M.Perm ((x, a) :: delM M x) := by
 induction M with
 | nil => cases h
 | cons p M ih =>
  rw [List.map_cons, List.nodup_cons] at hn
  rw [lookM_cons] at h
  by_cases hp : p.1 = x
  ·rw [if_pos hp] at h
   injection h with h
   have h1 : delM (p :: M) x = M := by
    unfold delM
    rw [List.filter_cons, if_neg (by simp [hp])]
    exact delM_none (fun r hr e => hn.1 (by rw [hp, ← e]; exact List.mem_map_of_mem hr))
   rw [h1, ← h, ← hp]
  ·rw [if_neg hp] at h
   have h1 : delM (p :: M) x = p :: delM M x := by
    unfold delM
    rw [List.filter_cons, if_pos (by simp [hp])]
   rw [h1]
   exact (List.Perm.cons p (ih hn.2 h)).trans (List.Perm.swap _ _ _)
theorem delM_put (M : List (Nat × α)) (x : Nat) (a : α) : delM (putM M x a) x = delM M x := by
 unfold putM
 split
 ·rename_i hs
  clear hs
  unfold delM
  induction M with
  | nil => rfl
  | cons r M ih2 =>
   rw [List.map_cons, List.filter_cons, List.filter_cons, ih2]
   by_cases hr : r.1 = x
   ·simp [hr]
   ·simp [hr]
 ·unfold delM
  rw [List.filter_append]
  simp
theorem nodup_put {M : List (Nat × α)} (hn : (M.map Prod.fst).Nodup) (x : Nat) (a : α) : ((putM M x a).map Prod.fst).Nodup := by
 rw [put_keys]
 cases hl : lookM M x with
 | some b => exact hn
 | none =>
  simp only [Option.isSome_none, Bool.false_eq_true, if_false]
  rw [List.nodup_append]
  refine ⟨hn, by simp, fun k hk j hj => ?_⟩
  rw [List.mem_singleton.1 hj]
  obtain ⟨p, hp, rfl⟩ := List.mem_map.1 hk
  exact lookM_none.1 hl p hp
theorem perm_put {M : List (Nat × α)} (hn : (M.map Prod.fst).Nodup) (x : Nat) (a : α) : (putM M x a).Perm ((x, a) :: delM M x) := by
 have h := perm_look (nodup_put hn x a) (x := x) (a := a) (by rw [look_put, if_pos rfl])
 rw [delM_put] at h
 exact h
theorem mem_put {M : List (Nat × α)} {x : Nat} {a : α} {p : Nat × α} (h : p ∈ putM M x a) : p = (x, a) ∨ p ∈ M := by
 unfold putM at h
 split at h
 ·obtain ⟨r, hr, rfl⟩ := List.mem_map.1 h
  by_cases e : r.1 = x
  ·rw [if_pos e]; exact .inl rfl
  ·rw [if_neg e]; exact .inr hr
 ·rcases List.mem_append.1 h with h | h
  ·exact .inr h
  ·exact .inl (List.mem_singleton.1 h)
theorem put_len (M : List (Nat × α)) (x : Nat) (a : α) : (putM M x a).length = if (lookM M x).isSome then M.length else M.length + 1 := by
 unfold putM
 split <;> simp
theorem put_map (f : α → β) (M : List (Nat × α)) (x : Nat) (a : α) : (putM M x a).map (fun p => (p.1, f p.2)) = putM (M.map fun p => (p.1, f p.2)) x (f a) := by
 unfold putM
 have h : (lookM (M.map fun p => (p.1, f p.2)) x).isSome = (lookM M x).isSome := by
  rw [lookM_map (fun _ s => f s)]
  cases lookM M x <;> rfl
 rw [h]
 split
 ·rw [List.map_map, List.map_map]
  refine List.map_congr_left fun p _ => ?_
  by_cases e : p.1 = x <;> simp [e]
 ·rw [List.map_append]; rfl
end
theorem flat_put_ne (C : CsT) (L : List Sm) (x : Sm) (b : Bool) : (setLast C (L ++ [x]) b).flatten ≠ [] := by
 rw [setLast_flat]
 simp
theorem OkD.putM {D : BD} (h : OkD D) {x : Nat} (hx : x < 4294967296) {C : CsT} (hc : OkC1 C) (hne : C.flatten ≠ []) (hr : ¬ ((lookM D.M x).isNone ∧ D.mo ≤ D.M.length)) : OkD ⟨D.mo, D.ch, Go.Proofs.YtmcdollkmlcpbaaGreatDoor.putM D.M x C⟩ := by
 refine ⟨h.mo1, h.mo2, h.ch1, h.ch2, ?_, nodup_put h.nd x C, fun p hp => ?_, fun p hp => ?_, fun p hp => ?_⟩
 ·show (Go.Proofs.YtmcdollkmlcpbaaGreatDoor.putM D.M x C).length ≤ D.mo
  rw [put_len]
  have := h.few
  cases hl : lookM D.M x with
  | some b => simpa using this
  | none =>
   rw [hl] at hr
   simp at hr
   simp
   omega
 ·rcases mem_put hp with rfl | hp
  ·exact hx
  ·exact h.key p hp
 ·rcases mem_put hp with rfl | hp
  ·exact hc
  ·exact h.ok p hp
 ·rcases mem_put hp with rfl | hp
  ·exact hne
  ·exact h.some_ p hp
theorem mayD_zero {D : BD} {x : Nat} {t : Int} (h : mayD D x t = 0) : ¬ ((lookM D.M x).isNone ∧ D.mo ≤ D.M.length) ∧ lateB (D.at_ x) t = true := by
 unfold mayD at h
 split at h
 ·cases h
 ·rename_i h1
  refine ⟨h1, ?_⟩
  split at h
  ·assumption
  ·cases h
theorem OkD.put {D : BD} (h : OkD D) {x : Nat} (hx : x < 4294967296) {s : Sm} (hs : in64 s.1 ∧ s.2 < 18446744073709551616) (hm : mayD D x s.1 = 0) (hn : (D.at_ x).flatten.length < 1000) : OkD (putD D x s) := by
 obtain ⟨h1, h2⟩ := mayD_zero hm
 unfold putD
 rw [if_pos hm]
 exact h.putM hx ((h.at_ x).put hs h2 hn) (flat_put_ne _ _ _ _) h1
theorem setLast_true (C : CsT) (L : List Sm) : setLast C L true = setLast C L false ++ [[]] := by unfold setLast; simp
theorem setLast_last (C : CsT) (L : List Sm) : lastL (setLast C L false) = L := by
 unfold setLast lastL
 simp
end Go.Proofs.YtmcdollkmlcpbaaGreatDoor
set_option linter.unusedSimpArgs false
set_option linter.unusedVariables false
namespace Go.Proofs.YtmcdollkmlcpbaaGreatDoor
theorem at_put (D : BD) (x y : Nat) (s : Sm) : (putD D x s).at_ y = if y = x ∧ mayD D x s.1 = 0 then putCs D.ch (D.at_ x) s else D.at_ y := by
 unfold putD
 by_cases h : mayD D x s.1 = 0
 ·rw [if_pos h]
  unfold BD.at_
  rw [look_put]
  by_cases e : y = x
  ·rw [if_pos e, if_pos ⟨e, h⟩]; rfl
  ·rw [if_neg e, if_neg (fun k => e k.1)]
 ·rw [if_neg h, if_neg (fun k => h k.2)]
def allD (D : BD) : List (Nat × List Sm) := D.M.map fun p => (p.1, p.2.flatten)
theorem allD_len (D : BD) : (allD D).length = D.M.length := by unfold allD; simp
theorem allD_get (D : BD) (j : Nat) : (allD D)[j]? = (D.M[j]?).map fun p => (p.1, p.2.flatten) := by unfold allD; rw [List.getElem?_map]
theorem at_of_mem {D : BD} (h : OkD D) {p : Nat × CsT} (hp : p ∈ D.M) : D.at_ p.1 = p.2 := by
 unfold BD.at_
 rw [lookM_of_mem h.nd hp]; rfl
theorem all_new {D : BD} {x : Nat} {z : Sm} (hm : mayD D x z.1 = 0) (hl : lookM D.M x = none) : allD (putD D x z) = allD D ++ [(x, [z])] := by
 unfold putD
 rw [if_pos hm]
 unfold allD putM
 rw [if_neg (by rw [hl]; decide), List.map_append]
 have e : D.at_ x = [[]] := by unfold BD.at_; rw [hl]; rfl
 rw [e]
 congr 1
 simp only [List.map_cons, List.map_nil, putCs_flat D.ch (show ([[]] : CsT) ≠ [] by simp)]
 rfl
theorem all_at {D : BD} (h : OkD D) {x j : Nat} {z : Sm} {p : Nat × CsT} (hm : mayD D x z.1 = 0) (hj : D.M[j]? = some p) (hx : p.1 = x) : allD (putD D x z) = (allD D).set j (x, p.2.flatten ++ [z]) := by
 unfold putD
 rw [if_pos hm]
 unfold allD
 simp only
 have hp := List.mem_of_getElem? hj
 have h1 := put_at h.nd hj (putCs D.ch (D.at_ x) z)
 rw [hx] at h1
 rw [h1, List.map_set]
 have e : D.at_ x = p.2 := by rw [← hx]; exact at_of_mem h hp
 rw [e, putCs_flat D.ch (h.ok p hp).ne]
structure LaI (sz k : Nat) (D : BD) : Prop where
 ok : OkD D
 ch : D.ch = sz
 mo : D.mo = 64
 len : ∀ y, (D.at_ y).flatten.length ≤ k
 key : ∀ p ∈ D.M, p.1 < 64
 full : ∀ y, ∀ L ∈ (D.at_ y).dropLast, L.length = sz
 last : ∀ y, (lastL (D.at_ y)).length < sz
theorem LaI.new {sz : Nat} (h1 : 1 ≤ sz) (h2 : sz ≤ 24) : LaI sz 0 ⟨64, sz, []⟩ :=
 ⟨⟨show 1 ≤ 64 by decide, show 64 ≤ 64 by decide, h1, h2, Nat.zero_le _, .nil, fun p h => (by cases h), fun p h => (by cases h), fun p h => (by cases h)⟩, rfl, rfl, fun y => Nat.le_refl _, fun p h => (by cases h), fun y L h => (by cases h), fun y => by show 0 < sz; omega⟩
theorem putCs_sizes {sz : Nat} {C : CsT} (hC : C ≠ []) (h1 : ∀ L ∈ C.dropLast, L.length = sz) (h2 : (lastL C).length < sz) (z : Sm) : (∀ L ∈ (putCs sz C z).dropLast, L.length = sz) ∧ (lastL (putCs sz C z)).length < sz := by
 unfold putCs
 by_cases e : (lastL C).length + 1 = sz
 ·rw [decide_eq_true e, setLast_true]
  rw [List.dropLast_concat]
  refine ⟨fun L hL => ?_, ?_⟩
  ·unfold setLast at hL
   rcases List.mem_append.1 hL with hL | hL
   ·exact h1 L hL
   ·simp at hL; subst hL; rw [List.length_append]; exact e
  ·unfold lastL
   rw [List.getLast?_concat]
   show 0 < sz
   omega
 ·rw [decide_eq_false e]
  refine ⟨fun L hL => ?_, ?_⟩
  ·unfold setLast at hL
   rw [if_neg (by decide), List.dropLast_concat] at hL
   exact h1 L hL
  ·rw [setLast_last, List.length_append, List.length_singleton]
   omega
theorem LaI.put {sz k : Nat} {D : BD} (h : LaI sz k D) {x : Nat} (hx : x < 64) {z : Sm} (hz : in64 z.1 ∧ z.2 < 18446744073709551616) (hk : k < 1000) : LaI sz (k + 1) (putD D x z) := by
 by_cases hm : mayD D x z.1 = 0
 ·have hM : (putD D x z).M = putM D.M x (putCs D.ch (D.at_ x) z) := by unfold putD; rw [if_pos hm]
  have hlen := h.len x
  refine ⟨h.ok.put (by omega) hz hm (by omega), ?_, ?_, fun y => ?_, fun p hp => ?_, fun y L hL => ?_, fun y => ?_⟩
  ·unfold putD; rw [if_pos hm]; exact h.ch
  ·unfold putD; rw [if_pos hm]; exact h.mo
  ·rw [at_put]
   split
   ·rw [putCs_flat _ (h.ok.at_ x).ne, List.length_append, List.length_singleton]
    omega
   ·have := h.len y; omega
  ·rw [hM] at hp
   rcases mem_put hp with rfl | hp
   ·exact hx
   ·exact h.key p hp
  ·rw [at_put] at hL
   split at hL
   ·rw [h.ch] at hL
    exact (putCs_sizes (h.ok.at_ x).ne (h.full x) (h.last x) z).1 L hL
   ·exact h.full y L hL
  ·rw [at_put]
   split
   ·rw [h.ch]
    exact (putCs_sizes (h.ok.at_ x).ne (h.full x) (h.last x) z).2
   ·exact h.last y
 ·have e : putD D x z = D := by unfold putD; rw [if_neg hm]
  rw [e]
  exact ⟨h.ok, h.ch, h.mo, fun y => by have := h.len y; omega, h.key, h.full, h.last⟩
end Go.Proofs.YtmcdollkmlcpbaaGreatDoor
