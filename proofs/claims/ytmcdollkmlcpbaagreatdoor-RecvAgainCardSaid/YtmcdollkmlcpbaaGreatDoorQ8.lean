/- Joined: Tou, TouQ, Sep, Bun, AppL. -/
import Derived.Test.YtmcdollkmlcpbaaGreatDoorQ7
import Derived.Deep.AppendLies
set_option linter.unusedSimpArgs false
set_option linter.unusedVariables false
set_option linter.unusedSimpArgs false
set_option linter.unusedVariables false
namespace Go.Proofs.YtmcdollkmlcpbaaGreatDoor
open Go.RowKit
structure Tou (F : Nat → Prop) (w w' : World) : Prop where
 os : w'.os = w.os
 tape : w'.tape = w.tape
 output : w'.output = w.output
 size : w.heap.size ≤ w'.heap.size
 block : ∀ k, k < w.heap.size → ¬ F k → w'.heap[k]? = w.heap[k]?
section
variable {F G : Nat → Prop} {a b c w w' : World}
theorem Tou.of_below (h : Below a.heap.size a b) : Tou F a b := ⟨h.os, h.tape, h.output, h.size, fun k hk _ => h.block k hk⟩
theorem Tou.of_grown {r : Option Nat} (h : a.grownBy b r) (hr : ∀ k, r = some k → F k) : Tou F a b := ⟨h.os, h.tape, h.output, h.size, fun k hk hf => h.block k hk (fun e => hf (hr k e.symm))⟩
theorem Tou.set (g i : Nat) (v : Value) (hg : F g) : Tou F a (a.setCell ⟨g, i, none⟩ v) := Tou.of_grown (grown_set a g i v) (fun k e => by injection e with e; subst e; exact hg)
theorem Tou.under {w0 : World} {B : Nat} (h : Tou F a b) (hb : Below B w0 a) (hF : ∀ k, F k → B ≤ k) (hB : B ≤ a.heap.size) : Below B w0 b :=
 ⟨h.os.trans hb.os, h.tape.trans hb.tape, h.output.trans hb.output, Nat.le_trans hb.size h.size, fun k hk => (h.block k (by omega) (fun e => by have := hF k e; omega)).trans (hb.block k hk)⟩
theorem Tou.blk (h : Tou F a b) {g : Nat} {t : TypeId} {cs : Array Value} (hb : Blk a g t cs) (hg : ¬ F g) : Blk b g t cs := (h.block g hb.lt hg).trans hb
theorem Tou.row (h : Tou F a b) {base n size : Nat} {e : TypeId} {v : Value} {xs : List Value} (ho : a.ownsRow base e size v n xs) (hv : ∀ k, v.ownBlock = some k → ¬ F k) : b.ownsRow base e size v n xs := by
 refine ⟨ho.1, ?_⟩
 rcases ho.2 with h1 | ⟨g, cap, cur, rfl, h2, h3, h4⟩
 ·exact .inl h1
 ·refine .inr ⟨g, cap, cur, rfl, h2, ?_, h4⟩
  have hlt : g < a.heap.size := (Array.getElem?_eq_some_iff.1 h3).1
  exact (h.block g hlt (hv g rfl)).trans h3
end
section
variable {γ : Type} {by_ : γ → List UInt8} {va : γ → Value} {w w' : World} {e : TypeId} {enc : γ → List Value} {sz : Nat} {V : Value} {T : List γ} {F : Nat → Prop}
end
end Go.Proofs.YtmcdollkmlcpbaaGreatDoor
set_option linter.unusedSimpArgs false
set_option linter.unusedVariables false
namespace Go.Proofs.YtmcdollkmlcpbaaGreatDoor
open Go.RowKit
theorem step_appR1L {α : Type} {P : Program} {t e : TypeId} {enc : α → List Value} {sz bytes : Nat} (E : Elt P t e enc sz bytes) (w : World) {ops : Array Oper} {o : Oper} {a : Act} {K : Act → World → Prop} {Q : Exit → Act → World → Prop} {Ep : Prop} (hgd : o.guard = none) (s x : Operand)
  (ho : o.op = .call { callee := .builtin .append, args := #[s, x], argTypes := #[t, t] })
  (base : Nat) (v : Value) (L : List α) (hs : a.eval s = v) (hown : OwnR w base e enc sz v L) (g c : Nat) (y : α) (u : TypeId) (cs : Array Value)
  (hx : a.eval x = .slice (some ⟨g, 0, none⟩) 1 c) (hb : Blk w g u cs) (hcs : cs = (enc y).toArray) (hlen : L.length + 1 ≤ maxLen) (hbytes : (L.length + 1) * bytes ≤ 140737488355328) (hbase : base ≤ w.heap.size) (H : Nat) (hH : w.heap.size = H)
  (h : ∀ g' c' w', OwnR w' base e enc sz (.slice (some ⟨g', 0, none⟩) (L.length + 1) c') (L ++ [y]) → w.grownBy w' v.ownBlock → (v.ownBlock = some g' ∨ g' = H) → g' < w'.heap.size → K (a.put o.dst (.slice (some ⟨g', 0, none⟩) (L.length + 1) c')) w') :
  if Region.wanted o (yielded ops a.tmps) = true then Oper.wp P o a w K Q else Ep := by
 subst hcs
 obtain ⟨z, hinfo, hzs⟩ := E.info
 obtain ⟨i, hi, hz, hsz, hby⟩ := info_parts hinfo
 refine step_append_lies (P := P) w hgd s x t ho base e i z sz bytes E.under hi hz hsz hby hzs E.pos v L.length (L.flatMap enc) hs hown ⟨g, 0, none⟩ 1 c (enc y) hx (by rw [E.len]; omega) ?_ (fun u hu => E.one y u hu) (by omega) hlen hbytes hbase H hH ?_
 ·intro j u hj
  have h1 : w.cell? ⟨g, j, none⟩ = some u := by rw [hb.cell]; simpa using hj
  unfold Addr.add
  split
  ·rename_i h0; subst h0; simpa using h1
  ·simpa using h1
 ·intro g' c' w' h2 h3 h4 h5
  exact h g' c' w' (by unfold OwnR; rw [List.length_append, List.flatMap_append]; simpa using h2) h3 h4 h5
end Go.Proofs.YtmcdollkmlcpbaaGreatDoor
set_option linter.unusedSimpArgs false
set_option linter.unusedVariables false
namespace Go.Proofs.YtmcdollkmlcpbaaGreatDoor
open Go.RowKit
structure Kt where
 P : World → Prop
 F : Nat → Prop
 keep : ∀ {w w' : World} {G : Nat → Prop}, P w → Tou G w w' → (∀ k, F k → ¬ G k) → P w'
 lt : ∀ {w : World}, P w → ∀ k, F k → k < w.heap.size
theorem Kt.below (t : Kt) {w w' : World} (h : t.P w) (b : Below w.heap.size w w') : t.P w' := t.keep (G := fun _ => False) h (Tou.of_below b) (fun _ _ e => e)
structure Sep (B : Nat) (w0 w : World) (ts : List Kt) : Prop where
 b : Below B w0 w
 sz : B ≤ w.heap.size
 all : ∀ t ∈ ts, t.P w ∧ ∀ k, t.F k → B ≤ k
 ap : ts.Pairwise fun a b => ∀ k, a.F k → ¬ b.F k
section
variable {B : Nat} {w0 w w' : World} {ts us : List Kt} {t t' t1 t2 : Kt}
theorem Sep.nil (h : Below B w0 w) (hs : B ≤ w.heap.size) : Sep B w0 w [] := ⟨h, hs, fun t ht => by simp at ht, .nil⟩
theorem Sep.get (h : Sep B w0 w ts) (ht : t ∈ ts) : t.P w := (h.all t ht).1
theorem Sep.at_ (h : Sep B w0 w ts) (i : Nat) (e : ts[i]? = some t) : t.P w := h.get (List.mem_of_getElem? e)
theorem Sep.go (h : Sep B w0 w ts) (b : Below w.heap.size w w') : Sep B w0 w' ts := ⟨h.b.trans (b.mono h.sz), Nat.le_trans h.sz b.size, fun t ht => ⟨t.below (h.all t ht).1 b, (h.all t ht).2⟩, h.ap⟩
theorem Sep.drew (h : Sep B w0 w ts) : Sep B w0 w.drew ts := h.go (Below.refl w.heap.size w).drew
theorem Sep.sub (h : Sep B w0 w ts) (hs : us.Sublist ts) : Sep B w0 w us := ⟨h.b, h.sz, fun t ht => h.all t (hs.subset ht), h.ap.sublist hs⟩
theorem Sep.apart (h : Sep B w0 w ts) {i j : Nat} (hi : ts[i]? = some t1) (hj : ts[j]? = some t2) (hij : i ≠ j) : ∀ k, t1.F k → ¬ t2.F k := by
 obtain ⟨hil, hie⟩ := List.getElem?_eq_some_iff.1 hi
 obtain ⟨hjl, hje⟩ := List.getElem?_eq_some_iff.1 hj
 have hap := List.pairwise_iff_getElem.1 h.ap
 intro k h1 h2
 rcases Nat.lt_or_gt_of_ne hij with h3 | h3
 ·exact hap i j hil hjl h3 k (by rw [hie]; exact h1) (by rw [hje]; exact h2)
 ·exact hap j i hjl hil h3 k (by rw [hje]; exact h2) (by rw [hie]; exact h1)
theorem Sep.call (h : Sep B w0 w ts) (i : Nat) (e : ts[i]? = some t) (hT : Tou t.F w w') (hP : t'.P w') (hN : ∀ k, t'.F k → t.F k ∨ w.heap.size ≤ k) : Sep B w0 w' (ts.set i t') := by
 have ht := h.all t (List.mem_of_getElem? e)
 have hB : ∀ k, t'.F k → B ≤ k := fun k hk => (hN k hk).elim (ht.2 k) (fun h1 => Nat.le_trans h.sz h1)
 have hlt : ∀ x ∈ ts, ∀ k, x.F k → k < w.heap.size := fun x hx => x.lt (h.all x hx).1
 refine ⟨hT.under h.b ht.2 h.sz, Nat.le_trans h.sz hT.size, fun x hx => ?_, ?_⟩
 ·obtain ⟨j, hj⟩ := List.getElem?_of_mem hx
  by_cases hji : j = i
  ·subst hji
   rw [List.getElem?_set_self (List.getElem?_eq_some_iff.1 e).1] at hj
   injection hj with hj
   subst hj
   exact ⟨hP, hB⟩
  ·rw [List.getElem?_set_ne (Ne.symm hji)] at hj
   exact ⟨x.keep (h.at_ j hj) hT (h.apart hj e hji), (h.all x (List.mem_of_getElem? hj)).2⟩
 ·rw [List.pairwise_iff_getElem]
  intro a b ha hb hab k h1 h2
  have ha' : a < ts.length := by simpa using ha
  have hb' : b < ts.length := by simpa using hb
  rw [List.getElem_set] at h1 h2
  by_cases hia : i = a
  ·by_cases hib : i = b
   ·omega
   ·rw [if_pos hia] at h1
    rw [if_neg hib] at h2
    rcases hN k h1 with h3 | h3
    ·exact h.apart e (List.getElem?_eq_getElem hb') (by omega) k h3 h2
    ·have := hlt _ (List.getElem_mem hb') k h2; omega
  ·rw [if_neg hia] at h1
   by_cases hib : i = b
   ·rw [if_pos hib] at h2
    rcases hN k h2 with h3 | h3
    ·exact h.apart e (List.getElem?_eq_getElem ha') (by omega) k h3 h1
    ·have := hlt _ (List.getElem_mem ha') k h1; omega
   ·rw [if_neg hib] at h2
    exact h.apart (List.getElem?_eq_getElem ha') (List.getElem?_eq_getElem hb') (by omega) k h1 h2
theorem Sep.tail (h : Sep B w0 w (t :: ts)) : Sep B w0 w ts := h.sub (List.sublist_cons_self t ts)
theorem Sep.cons (h : Sep B w0 w ts) (b : Below w.heap.size w w') (hP : t.P w') (hF : ∀ k, t.F k → w.heap.size ≤ k) : Sep B w0 w' (t :: ts) := by
 have h1 := h.go b
 refine ⟨h1.b, h1.sz, fun x hx => ?_, ?_⟩
 ·rw [List.mem_cons] at hx
  rcases hx with rfl | hx
  ·exact ⟨hP, fun k hk => Nat.le_trans h.sz (hF k hk)⟩
  ·exact h1.all x hx
 ·rw [List.pairwise_cons]
  refine ⟨fun a ha k hk hk2 => ?_, h.ap⟩
  have := a.lt (h.all a ha).1 k hk2
  have := hF k hk
  omega
end
def thB (g : Nat) (t : TypeId) (cs : Array Value) : Kt := ⟨fun w => Blk w g t cs, fun k => k = g, fun h t hF => t.blk h (hF g rfl), fun h k e => by subst e; exact h.lt⟩
def thO (v : Value) (l : List UInt8) : Kt := ⟨fun w => OwnB w 0 v l, fun k => v.ownBlock = some k, fun h t hF => t.row h hF, fun h k e => (World.ownsRow.lt h k e).2⟩
def thR {α : Type} (e : TypeId) (enc : α → List Value) (sz : Nat) (v : Value) (l : List α) : Kt := ⟨fun w => OwnR w 0 e enc sz v l, fun k => v.ownBlock = some k, fun h t hF => t.row h hF, fun h k e => (World.ownsRow.lt h k e).2⟩
theorem Sep.box {B : Nat} {w0 w : World} {ts : List Kt} (h : Sep B w0 w ts) (cs : Array Value) (t : TypeId) : Sep B w0 (w.alloc (.cells cs t)) (thB w.heap.size t cs :: ts) :=
 h.cons (below_alloc w _) (Blk.new w t cs) (fun k e => by subst e; exact Nat.le_refl _)
theorem Sep.blk {B : Nat} {w0 w : World} {ts : List Kt} (h : Sep B w0 w ts) (i : Nat) {g : Nat} {t : TypeId} {cs : Array Value} (e : ts[i]? = some (thB g t cs) := by rfl) : Blk w g t cs := h.at_ i e
theorem Sep.own {B : Nat} {w0 w : World} {ts : List Kt} (h : Sep B w0 w ts) (i : Nat) {v : Value} {l : List UInt8} (e : ts[i]? = some (thO v l) := by rfl) : OwnB w 0 v l := h.at_ i e
theorem Sep.put {B : Nat} {w0 w w' : World} {ts : List Kt} (h : Sep B w0 w ts) (i g : Nat) (l : List (Nat × Value)) (cs' : Array Value) {t : TypeId} {cs : Array Value} (hW : sets w g l = w') (e : ts[i]? = some (thB g t cs) := by rfl) (hc : setsL cs.toList l = cs'.toList := by rfl) : Sep B w0 w' (ts.set i (thB g t cs')) := by
 have hc' : (setsL cs.toList l).toArray = cs' := by rw [hc]
 rw [← hW, ← hc']
 exact h.call i e (Tou.of_grown (grown_sets g l w) (fun k e => by injection e with e; exact e.symm)) ((h.blk i e).sets l) (fun k hk => .inl hk)
theorem Sep.bs {B : Nat} {w0 w : World} {ts : List Kt} (h : Sep B w0 w ts) (hB : w0.heap.size ≤ B) {A : Option Addr} {l : List UInt8} (b : Bs w0 A l) : Bs w A l := fun i x hi => by
 obtain ⟨p, o, hA, hc⟩ := b i x hi
 exact ⟨p, o, hA, (h.b.cell (Nat.lt_of_lt_of_le (cell_lt hc) hB)).trans hc⟩
end Go.Proofs.YtmcdollkmlcpbaaGreatDoor
set_option linter.unusedSimpArgs false
set_option linter.unusedVariables false
namespace Go.Proofs.YtmcdollkmlcpbaaGreatDoor
open Go.RowKit
def ApartL (us : List Kt) : Prop := us.Pairwise fun (a b : Kt) => ∀ k : Nat, a.F k → ¬ b.F k
def thAll (us : List Kt) : Kt where
 P := fun w => (∀ t ∈ us, t.P w) ∧ ApartL us
 F := fun k => ∃ t ∈ us, t.F k
 keep := by
  intro w w' G h ht hF
  exact ⟨fun t hm => t.keep (h.1 t hm) ht (fun k hk => hF k ⟨t, hm, hk⟩), h.2⟩
 lt := by
  intro w h k hk
  obtain ⟨t, hm, hk⟩ := hk
  exact t.lt (h.1 t hm) k hk
section
variable {B : Nat} {w0 w w' : World} {us ts vs : List Kt}
theorem Sep.permB (h : Sep B w0 w ts) (hp : ts.Perm us) : Sep B w0 w us := ⟨h.b, h.sz, fun t ht => h.all t (hp.mem_iff.2 ht), (hp.pairwise_iff (fun {x y} hxy k h1 h2 => hxy k h2 h1)).1 h.ap⟩
theorem Sep.openB (h : Sep B w0 w (thAll us :: ts)) : Sep B w0 w (us ++ ts) := by
 obtain ⟨⟨h1, h2⟩, h3⟩ := h.all _ List.mem_cons_self
 have h4 := List.pairwise_cons.1 h.ap
 refine ⟨h.b, h.sz, fun t ht => ?_, List.pairwise_append.2 ⟨h2, h4.2, fun a ha b hb k hk => h4.1 b hb k ⟨a, ha, hk⟩⟩⟩
 rcases List.mem_append.1 ht with ht | ht
 ·exact ⟨h1 t ht, fun k hk => h3 k ⟨t, ht, hk⟩⟩
 ·exact h.all t (List.mem_cons_of_mem _ ht)
theorem Sep.shutB (h : Sep B w0 w (us ++ ts)) : Sep B w0 w (thAll us :: ts) := by
 have h1 := List.pairwise_append.1 h.ap
 refine ⟨h.b, h.sz, fun t ht => ?_, List.pairwise_cons.2 ⟨fun b hb k hk => ?_, h1.2.1⟩⟩
 ·rcases List.mem_cons.1 ht with rfl | ht
  ·exact ⟨⟨fun t hm => (h.all t (List.mem_append.2 (.inl hm))).1, h1.1⟩, fun k ⟨t, hm, hk⟩ => (h.all t (List.mem_append.2 (.inl hm))).2 k hk⟩
  ·exact h.all t (List.mem_append.2 (.inr ht))
 ·obtain ⟨t, hm, hk⟩ := hk
  exact h1.2.2 t hm b hb k hk
end
end Go.Proofs.YtmcdollkmlcpbaaGreatDoor
set_option linter.unusedSimpArgs false
set_option linter.unusedVariables false
namespace Go.Proofs.YtmcdollkmlcpbaaGreatDoor
open Go.RowKit
set_option maxRecDepth 100000
theorem own_built (w : World) (bs : List UInt8) {base : Nat} (hb : base ≤ w.heap.size) (hl : bs.length ≤ 100000) : OwnB (w.alloc (.cells (bs.map bv).toArray 5)) base (.slice (some ⟨w.heap.size, 0, none⟩) bs.length bs.length) bs :=
 ⟨by simp, .inr ⟨w.heap.size, bs.length, (bs.map bv).toArray, rfl, hb, heap_alloc_new w _, Nat.le_refl _, by unfold maxLen; omega, by simp, by simp [List.take_of_length_le]⟩⟩
end Go.Proofs.YtmcdollkmlcpbaaGreatDoor
