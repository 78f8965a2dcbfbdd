/- Joined: Rft. -/
import Derived.Test.YtmcdollkmlcpbaaGreatDoorQ34
import Derived.RangeFuncNested
import Derived.RangeFuncBound
import Derived.RangeFuncCalls
import Derived.RangeFuncLeaves
import Derived.RangeFuncBox
import Derived.Shelf.Abstract
import Derived.Shelf.RegionOpen
import Derived.WalkKit
import Derived.OwnWalkIn
import Derived.TacticsInMore
import Derived.LoopNIn
import Derived.LoopIn
import Derived.Maps.AppendAt
import Derived.Test.YtmcdollkmlcpbaaGreatDoorQ7
set_option linter.unusedSimpArgs false
set_option linter.unusedVariables false
namespace Go.Proofs.YtmcdollkmlcpbaaGreatDoor
open Go.RowKit Go.Shelf
structure StepT (B : Nat) (T : TypeId) (A C : World) : Prop where
 os : C.os = A.os
 tape : C.tape = A.tape
 output : C.output = A.output
 size : A.heap.size ≤ C.heap.size
 block : ∀ k, k < A.heap.size → (k < B ∨ ¬ ∃ cs z, A.heap[k]? = some (.cells cs T z)) → C.heap[k]? = A.heap[k]?
structure StepR (B : Nat) (T : TypeId) (A C : World) : Prop where
 os : C.os = A.os
 tape : C.tape = A.tape
 output : C.output = A.output
 size : A.heap.size ≤ C.heap.size
 block : ∀ k, k < A.heap.size → (k < B ∨ ∃ cs t z, t ≠ T ∧ A.heap[k]? = some (.cells cs t z)) → C.heap[k]? = A.heap[k]?
theorem StepT.grown {B : Nat} {T : TypeId} {A C : World} (h : Below A.heap.size A C) : StepT B T A C := ⟨h.os, h.tape, h.output, h.size, fun k hk _ => h.block k hk⟩
theorem StepT.alloc {B : Nat} {T : TypeId} (A : World) (o : Obj) : StepT B T A (A.alloc o) := .grown (below_alloc A o)
theorem StepT.store {B : Nat} {T : TypeId} {A : World} {g : Nat} {cs : Array Value} (hb : Blk A g T cs) (hB : B ≤ g) (l : List (Nat × Value)) : StepT B T A (sets A g l) := by
 have h := grown_sets g l A
 refine ⟨h.os, h.tape, h.output, h.size, fun k hk hn => h.block k hk (fun e => ?_)⟩
 injection e with e
 subst e
 rcases hn with hn | hn
 ·omega
 ·exact hn ⟨cs, (0, 0), hb⟩
theorem StepT.toR {B B' : Nat} {T : TypeId} {A C : World} (h : StepT B T A C) (hB : B' ≤ B) : StepR B' T A C := ⟨h.os, h.tape, h.output, h.size, fun k hk hn => h.block k hk (by
 rcases hn with hn | ⟨cs, t, z, ht, e⟩
 ·exact .inl (by omega)
 ·refine .inr ?_
  rintro ⟨cs', z', e'⟩
  rw [e] at e'
  cases e'
  exact ht rfl)⟩
theorem StepR.put {B : Nat} {T : TypeId} {W : World} {l : Nat} {o : Obj} (o' : Obj) (hB : B ≤ l) (hl : W.heap[l]? = some o) (ho : o.isCells = false) : StepR B T W (W.putObj l o') := by
 have h := grownBy_putObj' W l o'
 refine ⟨h.os, h.tape, h.output, h.size, fun k hk hn => h.block k hk (fun e => ?_)⟩
 injection e with e
 subst e
 rcases hn with hn | ⟨cs, t, z, ht, e⟩
 ·omega
 ·rw [hl] at e
  cases e
  cases ho
theorem StepR.alloc {B : Nat} {T : TypeId} (A : World) (o : Obj) : StepR B T A (A.alloc o) := (StepT.alloc (B := B) A o).toR (Nat.le_refl _)
theorem StepR.blk {B : Nat} {T t : TypeId} {A C : World} {g : Nat} {cs : Array Value} (h : StepR B T A C) (hb : Blk A g t cs) (ht : t ≠ T ∨ g < B) : Blk C g t cs :=
 (h.block g hb.lt (by
  rcases ht with ht | ht
  ·exact .inr ⟨cs, t, (0, 0), ht, hb⟩
  ·exact .inl ht)).trans hb
theorem StepR.row {B : Nat} {T e : TypeId} {A C : World} {base size n : Nat} {v : Value} {xs : List Value} (h : StepR B T A C) (ho : A.ownsRow base e size v n xs) (he : e ≠ T) : C.ownsRow base e size v n xs := by
 refine ⟨ho.1, ?_⟩
 rcases ho.2 with hn | ⟨g, cap, cur, rfl, hbg, hgg, rest⟩
 ·exact .inl hn
 ·exact .inr ⟨g, cap, cur, rfl, hbg, (h.block g (Array.getElem?_eq_some_iff.1 hgg).1 (.inr ⟨cur, e, (0, 0), he, hgg⟩)).trans hgg, rest⟩
theorem StepR.below {B n0 : Nat} {T : TypeId} {A C w0 : World} (h : StepR B T A C) (hb : Below n0 w0 A) (hn : n0 ≤ B) (hs : n0 ≤ A.heap.size) : Below n0 w0 C :=
 ⟨h.os.trans hb.os, h.tape.trans hb.tape, h.output.trans hb.output, Nat.le_trans hb.size h.size, fun k hk => (h.block k (by omega) (.inl (by omega))).trans (hb.block k hk)⟩
def SeqT {α : Type} (F : Fence) (n : Nat) (P : Program) (T : TypeId) (gf : Nat) (lb : Array Value) (encs : α → Array Value) (Kp : World → World → Prop) (S Sp : List α → Prop) (N : Nat) (w0 : World) : Prop :=
 ∀ (l : Nat) (J Jx : List α → World → Prop) (W : World), Below w0.heap.size w0 W → (∀ s A C, J s A → StepT W.heap.size T A C → J s C) → (∀ s A C, Jx s A → StepT W.heap.size T A C → Jx s C) →
  (∀ pre x W1, J pre W1 → pre.length < N → YieldAt F (n - 1) P l (encs x) W1 fun e W' =>
   (e = .returned (.bool true) ∧ J (pre ++ [x]) W' ∧ Kp W1 W') ∨ (e = .returned (.bool false) ∧ Jx (pre ++ [x]) W')) →
  J [] W →
  CallsIn F n P gf (#[.func (.yield l) #[] #[]] ++ lb) W fun e W' => (∃ v, e = .returned v) ∧ ((∃ xs, S xs ∧ J xs W') ∨ (∃ pre, Sp pre ∧ Jx pre W'))
structure Recs (b : Nat) (r : Loop) (W : World) : Prop where
 own : W.heap[b + 1]? = some (.loop r)
 dfr : W.heap[b]? = some (.deferred (some []))
theorem Recs.step {b : Nat} {r : Loop} {A C : World} {T : TypeId} {B : Nat} (h : Recs b r A) (k : StepT B T A C) : Recs b r C := by
 have h1 : ∀ (i : Nat) (o : Obj), A.heap[i]? = some o → o.isCells = false → C.heap[i]? = some o := fun i o ho hc =>
  (k.block i (Array.getElem?_eq_some_iff.1 ho).1 (.inr (by rintro ⟨cs, z, e⟩; rw [ho] at e; cases e; cases hc))).trans ho
 exact ⟨h1 _ _ h.own rfl, h1 _ _ h.dfr rfl⟩
theorem Recs.keep {b : Nat} {r : Loop} {A C : World} (h : Recs b r A) (k : KeepsFrom b A C) : Recs b r C := ⟨k.same _ _ (by omega) h.own rfl, k.same _ _ (Nat.le_refl _) h.dfr rfl⟩
theorem Recs.turn {b : Nat} {r : Loop} {A : World} (h : Recs b r A) (r' : Loop) : Recs b r' (A.putObj (b + 1) (.loop r')) :=
 ⟨World.putObj_heap_same (Array.getElem?_eq_some_iff.1 h.own).1, (World.putObj_heap_other (by omega)).trans h.dfr⟩
theorem wpIn_rangeT {F : Fence} {n : Nat} {P : Program} {w : World} {α : Type} {g : Operand} {ps : Array Tmp} {assign body : Code} {Q : Exit → Act → World → Prop} {a : Act} (T : TypeId)
  (hro : F.round = none) (h1 : 1 ≤ n) {gf : Nat} {lb : Array Value} (hg : a.eval g = .func (.func gf) #[] lb) (hFg : F.fn gf) (eg : ∀ args w, (callFunc gf args).run P w = .ok (.enter gf args) w)
  {encs : α → Array Value} {Kp : World → World → Prop} {S Sp : List α → Prop} {N : Nat} {w0 : World} (hseq : SeqT F (n - 1) P T gf lb encs Kp S Sp N w0)
  (hKt : ∀ A B C : World, Kp A B → Kp B C → Kp A C) (hKb : ∀ (W : World) (l : Nat) (o o' : Obj), w.heap.size ≤ l → W.heap[l]? = some o → o.isCells = false → Kp W (W.putObj l o')) (hb0 : Below w0.heap.size w0 w) (hps : ∀ x, (encs x).size = ps.size)
  (I : List α → World → Prop) (Ix : Code → List α → World → Prop) (Ax : α → Act → World → Prop)
  (hI : ∀ s A C, I s A → StepR w.heap.size T A C → I s C) (hIx : ∀ c s A C, Ix c s A → StepR w.heap.size T A C → Ix c s C) (h0 : I [] w)
  (hAx : ∀ x a' (W : World) l o o', W.heap[l]? = some o → o.isCells = false → Ax x a' W → Ax x a' (W.putObj l o'))
  (hassign : ∀ (l : Nat) (pre : List α) (x : α) (W : World) (K : Act → World → Prop), I pre W → w.heap.size ≤ W.heap.size → (∀ a' W', KeepsFrom w.heap.size W W' → Kp W W' → I pre W' → Ax x a' W' → K a' W') →
   assign.wpIn (F.inRound l) (n - 1 - 1) P (Exit.then K (fun _ _ _ => False)) { tmps := (ps.zip (encs x)).foldl (fun t (p, v) => t.setIfInBounds p v) a.tmps, defers := [] } W)
  (hbody : ∀ (l : Nat) (pre : List α) (x : α) (a' : Act) (W : World), I pre W → Ax x a' W → pre.length < N → body.wpIn (F.inRound l) (n - 1 - 1) P (ownPostG w.heap.size Kp I Ix (pre ++ [x]) W) a' W)
  (hdone : ∀ (D : Nat) (xs : List α) (W : World), w.heap.size ≤ D → S xs → I xs W → W.heap[D]? = some (.deferred (some [])) → Q .normal { a with defers := { target := .collected D, args := #[] } :: a.defers } W)
  (hstop : ∀ (D : Nat) (c : Code) (pre : List α) (W : World), w.heap.size ≤ D → Sp pre → Ix c pre W → W.heap[D]? = some (.deferred (some [])) → c.wpIn F n P Q { a with defers := { target := .collected D, args := #[] } :: a.defers } W) :
  (Code.rangeFunc g ps assign body).wpIn F n P Q a w := by
 refine wpIn_rangeFunc fun fn hfn => ?_
 rw [hro]
 obtain ⟨B, hB⟩ : ∃ B, B = w.heap.size := ⟨_, rfl⟩
 obtain ⟨rec, hrec⟩ : ∃ rec : LoopState → Option Code → Loop, rec = fun st pe => { state := st, pending := pe, fn, tmps := a.tmps, params := ps, assign, body, defers := B } := ⟨_, rfl⟩
 obtain ⟨W1, hW1⟩ : ∃ W1, W1 = (w.alloc (.deferred (some []))).alloc (.loop (rec .ready none)) := ⟨_, rfl⟩
 have hz1 : W1.heap.size = B + 2 := by rw [hW1, hB]; simp
 have hR1 : Recs B (rec .ready none) W1 := by
  rw [hW1, hB]
  refine ⟨?_, (Below.heap_alloc _ _ _ (by simp)).trans (World.alloc_heap_new w _)⟩
  have := World.alloc_heap_new (w.alloc (.deferred (some []))) (.loop (rec .ready none))
  rwa [World.size_alloc] at this
 have hI1 : I [] W1 := by rw [hW1]; exact hI _ _ _ (hI _ _ _ h0 (StepR.alloc _ _)) (StepR.alloc _ _)
 have hbW : Below w.heap.size w W1 := by rw [hW1]; exact below_alloc2 w _ _
 rw [← hB] at hI hIx hKb hassign hbody hdone hstop
 refine ⟨B + 1, [{ target := .collected B, args := #[] }], W1, { target := .fn (.func gf) lb, args := #[.func (.yield (B + 1)) #[] #[]] }, W1, gf, #[.func (.yield (B + 1)) #[] #[]] ++ lb, W1, ?_, ?_, ?_, ?_, fun _ => h1, ?_⟩
 ·rw [hW1, hrec, hB]; exact run_enterLoop_outer _ _ _ _ _
 ·simp only [resolve, hg]; simp [go_sem]
 ·intro f' hf'
  simp [Target.leads] at hf'
  subst hf'
  exact hFg
 ·simp [invoke, go_sem, eg]
 have toR : ∀ A C, StepT W1.heap.size T A C → StepR B T A C := fun A C h => h.toR (by omega)
 refine (hseq (B + 1) (fun pre W => I pre W ∧ Recs B (rec .ready none) W ∧ B ≤ W.heap.size) (fun pre W => ∃ c, Ix c pre W ∧ Recs B (rec .done (some c)) W) W1 (hb0.trans (hbW.mono hb0.size))
  (fun s A C h k => ⟨hI s A C h.1 (toR A C k), h.2.1.step k, Nat.le_trans h.2.2 k.size⟩) (fun s A C ⟨c, h, hr⟩ k => ⟨c, hIx c s A C h (toR A C k), hr.step k⟩) ?_ ⟨hI1, hR1, by omega⟩).mono ?_
 ·rintro pre x W ⟨hi, hr, hz⟩ hlen
  have hy := run_yield (P := P) (args := encs x) hr.own (by rw [hrec]; exact hps x)
  rw [hrec] at hy
  refine ⟨fn, _, assign, body, hy, roundIn_of_wpIn hfn (hassign _ pre x W _ hi hz ?_)⟩
  intro a' W' hk1 hk2 hi2 hax
  have hr2 := hr.keep hk1
  have hr3 : Recs B { rec .ready none with state := .busy } (W'.putObj (B + 1) (.loop { rec .ready none with state := .busy })) := hr2.turn _
  have hkp := hKb W' (B + 1) _ (.loop { rec .ready none with state := .busy }) (by omega) hr2.own rfl
  refine ⟨_, run_beginRound hr2.own (by rw [hrec]), ?_⟩
  refine wpIn_mono (hbody _ pre x a' _ (hI _ _ _ hi2 (StepR.put _ (by omega) hr2.own rfl)) (hAx _ _ _ _ _ _ hr2.own rfl hax) hlen) ?_
  have fin : ∀ (jump : Option Code) (W3 : World), KeepsFrom B (W'.putObj (B + 1) (.loop { rec .ready none with state := .busy })) W3 →
    (Instr.endRound (B + 1) jump).run P W3 = .ok (.bool jump.isNone) (W3.putObj (B + 1) (.loop (rec (if jump.isNone then .ready else .done) jump))) ∧ Recs B { rec .ready none with state := .busy } W3 ∧
    Recs B (rec (if jump.isNone then .ready else .done) jump) (W3.putObj (B + 1) (.loop (rec (if jump.isNone then .ready else .done) jump))) := fun jump W3 hk3 => by
   have hr4 := hr3.keep hk3
   have h5 := run_endRound (P := P) jump hr4.own
   refine ⟨?_, hr4, hr4.turn _⟩
   rw [hrec] at h5 ⊢
   exact h5
  rintro e a3 W3 hp
  cases e with
  | normal =>
   obtain ⟨hk3, hkp3, hi3⟩ := hp
   obtain ⟨f1, f2, f3⟩ := fin none W3 hk3
   refine ⟨_, _, f1, .inl ⟨rfl, ⟨hI _ _ _ hi3 (StepR.put _ (by omega) f2.own rfl), f3, ?_⟩, hKt _ _ _ hk2 (hKt _ _ _ hkp (hKt _ _ _ hkp3 (hKb _ _ _ _ (by omega) f2.own rfl)))⟩⟩
   have := (Array.getElem?_eq_some_iff.1 f3.own).1
   omega
  | ret =>
   obtain ⟨hk3, hi3⟩ := hp
   obtain ⟨f1, f2, f3⟩ := fin (some .ret) W3 hk3
   exact ⟨_, _, f1, .inr ⟨rfl, .ret, hIx _ _ _ _ hi3 (StepR.put _ (by omega) f2.own rfl), f3⟩⟩
  | exit id =>
   obtain ⟨hk3, hi3⟩ := hp
   obtain ⟨f1, f2, f3⟩ := fin (some (.exit id)) W3 hk3
   exact ⟨_, _, f1, .inr ⟨rfl, .exit id, hIx _ _ _ _ hi3 (StepR.put _ (by omega) f2.own rfl), f3⟩⟩
  | goto t =>
   obtain ⟨hk3, hi3⟩ := hp
   obtain ⟨f1, f2, f3⟩ := fin (some (.goto t)) W3 hk3
   exact ⟨_, _, f1, .inr ⟨rfl, .goto t, hIx _ _ _ _ hi3 (StepR.put _ (by omega) f2.own rfl), f3⟩⟩
  | panic ch => exact hp.elim
  | outgrown => exact hp.elim
 ·rintro e W2 ⟨⟨v, rfl⟩, (⟨xs, hS, hi, hr, -⟩ | ⟨pre, hSp, c, hi, hr⟩)⟩
  ·refine ⟨none, _, by have := run_endLoop (P := P) hr.own (by rw [hrec]; simp); rw [hrec] at this; exact this, hdone _ xs _ (Nat.le_refl _) hS (hI _ _ _ hi (StepR.put _ (by omega) hr.own rfl)) ((World.putObj_heap_other (by omega)).trans hr.dfr)⟩
  ·refine ⟨some c, _, by have := run_endLoop (P := P) hr.own (by rw [hrec]; simp); rw [hrec] at this; exact this, hstop _ c pre _ (Nat.le_refl _) hSp (hIx c _ _ _ hi (StepR.put _ (by omega) hr.own rfl)) ((World.putObj_heap_other (by omega)).trans hr.dfr)⟩
end Go.Proofs.YtmcdollkmlcpbaaGreatDoor
