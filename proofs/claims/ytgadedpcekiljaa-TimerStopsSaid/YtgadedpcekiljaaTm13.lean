/- Layer 14: two timers of the program. -/
import Derived.Test.YtgadedpcekiljaaTm12
import Derived.Test.YtgadedpcekiljaaFrt
set_option linter.unusedSimpArgs false
set_option linter.unusedVariables false
namespace Go.Proofs.Ytgadedpcekiljaa
open Go.RowKit
set_option maxRecDepth 100000

/-- bounds of one side -/
def Bm (k : Nat) (M : List (Nat × Nat × Nat)) : Prop := M.length ≤ k ∧ ∀ x c, lookM M x = some c → c.2 ≤ 4
theorem Bm.new : Bm 0 [] := ⟨Nat.le_refl _, fun x c h => (by cases h)⟩
theorem Bm.bt {k tk : Nat} {M : List (Nat × Nat × Nat)} (h : Bm k M) (ht : tk ≤ 1000) (hk : k ≤ 1000) : Bt k M [] tk 1 := ⟨ht, by omega, h.1, Nat.zero_le _, h.2, fun y h => (by cases h), hk⟩
theorem Bm.step {k tk : Nat} {M M' : List (Nat × Nat × Nat)} {o : OT} (h : Bm k M) (ht : tk ≤ 1000) (hk : k < 1000) (h1 : ∀ j, lookM M' j = stepF tk o (lookM M) j) (h2 : M'.length ≤ M.length + 1) : Bm (k + 1) M' := by
  have := (h.bt ht (by omega)).step hk h1 h2
  exact ⟨this.ml, this.mt⟩
theorem Bm.mono {k : Nat} {M : List (Nat × Nat × Nat)} (h : Bm k M) : Bm (k + 1) M := ⟨Nat.le_succ_of_le h.1, h.2⟩
theorem Tb.at {B : Nat} {w0 w w' : World} {ts : List Kt} {q tk rq n : Nat} {M : List (Nat × Nat × Nat)} (h : Tm B w0 w q tk M ts) (hb : Below w.heap.size w w') (hk : Blk w' rq 52 #[.int .u64 (n : Nat), .slice none 0 0]) (hq : w.heap.size ≤ rq) : Tb B w0 w' q tk M rq n [] ts := by
  obtain ⟨b, h1⟩ := h
  have h2 := (h1.cons (t := thB rq 52 #[.int .u64 (n : Nat), .slice none 0 0]) hb hk (fun k e => by subst e; exact hq)).cons (t := thR 57 encT 3 (.slice none 0 0) ([] : List (Nat × Nat × Nat))) (Below.refl _ _) (OwnR.nil _ _ _ _ _) (fun k e => by cases e)
  refine ⟨b, none, 0, 0, rfl, srt_perm h2 ?_⟩
  exact (((List.Perm.swap _ _ _).trans (perm4 _ _ _ _ _)))
theorem Tb.tm {B : Nat} {w0 w : World} {tq tk rq rk : Nat} {M L : List (Nat × Nat × Nat)} {ts : List Kt} (h : Tb B w0 w tq tk M rq rk L ts) : Tm B w0 w tq tk M ts := by
  obtain ⟨A, n, c, h1, h2⟩ := h.asTm
  exact h2.drop ((List.sublist_cons_self _ _).trans (List.sublist_cons_self _ _))
/-- a call whose answer is not looked at -/
theorem does_new {B : Nat} {w0 w w' : World} {q rq T : Nat} {M : List (Nat × Nat × Nat)} {ts : List Kt} {o : OT} {k : Nat} (h : Tm B w0 w q T M ts) (hb : Below w.heap.size w w') (hk : Blk w' rq 52 #[.int .u64 ((1 : Nat) : Int), .slice none 0 0]) (hq : w.heap.size ≤ rq) (hM : Bm k M) (hT : T ≤ 1000) (hk9 : k < 1000) (hs : o.se < 4294967296) (hn : o.now < 18446744073709551616) :
    Calls Try.prog 9 #[.pointer (some ⟨q, 0, none⟩), .pointer (some ⟨rq, 0, none⟩), .agg (celT o)] w' fun e w'' => ∃ (r : Bool) (M' : List (Nat × Nat × Nat)), e = .returned (.bool r) ∧ Tm B w0 w'' q T M' ts ∧ (∀ j, lookM M' j = stepF T o (lookM M) j) ∧ Bm (k + 1) M' := by
  refine (does14_any (Tb.at h hb hk hq) (hM.bt hT (by omega)) hs hn).mono ?_
  rintro e w2 ⟨r, M', L', rfl, h1, h2, h3, -, -⟩
  exact ⟨r, M', rfl, h1.tm, h2, hM.step hT hk9 h2 h3⟩
/-- two timers of the program -/
def T2 (B : Nat) (w0 w : World) (T qa : Nat) (Ma : List (Nat × Nat × Nat)) (qb : Nat) (Mb : List (Nat × Nat × Nat)) (ts : List Kt) : Prop := ∃ ba bb, Sep B w0 w (bxP T ba qa :: thMu alV ba Ma :: bxP T bb qb :: thMu alV bb Mb :: ts)
section
variable {B : Nat} {w0 w w' : World} {T qa qb : Nat} {Ma Mb : List (Nat × Nat × Nat)} {ts : List Kt}
theorem T2.asA (h : T2 B w0 w T qa Ma qb Mb ts) : ∃ bb, Tm B w0 w qa T Ma (bxP T bb qb :: thMu alV bb Mb :: ts) := by
  obtain ⟨ba, bb, h⟩ := h
  exact ⟨bb, ba, h⟩
theorem T2.ofA {bb : Nat} (h : Tm B w0 w qa T Ma (bxP T bb qb :: thMu alV bb Mb :: ts)) : T2 B w0 w T qa Ma qb Mb ts := by
  obtain ⟨ba, h⟩ := h
  exact ⟨ba, bb, h⟩
theorem T2.asB (h : T2 B w0 w T qa Ma qb Mb ts) : ∃ ba, Tm B w0 w qb T Mb (bxP T ba qa :: thMu alV ba Ma :: ts) := by
  obtain ⟨ba, bb, h⟩ := h
  exact ⟨ba, bb, srt_perm h (perm4 _ _ _ _ _)⟩
theorem T2.ofB {ba : Nat} (h : Tm B w0 w qb T Mb (bxP T ba qa :: thMu alV ba Ma :: ts)) : T2 B w0 w T qa Ma qb Mb ts := by
  obtain ⟨bb, h⟩ := h
  exact ⟨ba, bb, srt_perm h (perm4 _ _ _ _ _)⟩
theorem T2.sep (h : T2 B w0 w T qa Ma qb Mb ts) : Below B w0 w := by
  obtain ⟨ba, bb, h⟩ := h
  exact h.b
end
theorem Tm.toSep {B : Nat} {w0 w : World} {ts : List Kt} {q tk : Nat} {M : List (Nat × Nat × Nat)} (h : Tm B w0 w q tk M ts) : ∃ b, Sep B w0 w (bxP tk b q :: thMu alV b M :: ts) := h
theorem stepF_own {T : Nat} {o : OT} {f g : Nat → Option (Nat × Nat)} {s : Nat} (h : f s = g s) (hc : o.se = s ∨ 3 < o.kd % 6) : stepF T o f s = stepF T o g s := by
  unfold stepF
  by_cases h2 : o.kd % 6 = 2
  · rw [if_pos h2, if_pos h2, h]
  · rw [if_neg h2, if_neg h2]
    by_cases h3 : o.kd % 6 = 3
    · rw [if_pos h3, if_pos h3, h]
    · rw [if_neg h3, if_neg h3]
      by_cases h4 : 3 < o.kd % 6
      · rw [if_pos h4, if_pos h4, h]
      · rw [if_neg h4, if_neg h4]
        rcases hc with hc | hc
        · rw [hc, h]
        · exact absurd hc h4
theorem stepF_other {T : Nat} {o : OT} {f : Nat → Option (Nat × Nat)} {s : Nat} (h1 : ¬ o.se = s) (h2 : ¬ 3 < o.kd % 6) : stepF T o f s = f s := by
  unfold stepF
  have h3 : ¬ s = o.se := fun e => h1 e.symm
  simp only [if_neg h3, if_neg h2]
  split
  · rfl
  · split
    · rfl
    · split <;> rfl

end Go.Proofs.Ytgadedpcekiljaa
