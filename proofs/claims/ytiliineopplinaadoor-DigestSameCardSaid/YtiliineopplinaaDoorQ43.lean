/- Joined: Bk32, Bk38, Bk40. -/
import Derived.Test.YtiliineopplinaaDoorQ38
import Derived.Test.YtiliineopplinaaDoorQ39
import Derived.Test.YtiliineopplinaaDoorQ41
import Derived.Test.YtiliineopplinaaDoorQ5
import Derived.Test.YtiliineopplinaaDoorQ28
set_option linter.unusedSimpArgs false
set_option linter.unusedVariables false
/- Layer 12: what chunk.All reads of a part, and all samples of a series. -/
set_option linter.unusedSimpArgs false
set_option linter.unusedVariables false
namespace Go.Proofs.YtiliineopplinaaDoor
open Go.RowKit
set_option maxRecDepth 100000

theorem RsS.head {w : World} {s : Sl} {C : CsT} (h : RsS w s C) : ∃ gp, s.PA = some ⟨gp, 0, none⟩ ∧ w.cell? ⟨s.g, 0, none⟩ = some (.slice (some ⟨gp, 0, none⟩) C.length s.pc) := by
  have hpos : 0 < s.ps.length := List.length_pos_iff.2 h.ne
  obtain ⟨gp, e1, -⟩ := h.rd.part (List.getElem?_eq_getElem hpos)
  have h1 := h.rd.blk.cell 0
  refine ⟨gp, e1, ?_⟩
  rw [← h.len, ← h.ok.pn, ← e1]
  exact h1
end Go.Proofs.YtiliineopplinaaDoor

/- Layer 12: what the last chunk is once a frame is taken. -/
set_option linter.unusedSimpArgs false
set_option linter.unusedVariables false
namespace Go.Proofs.YtiliineopplinaaDoor
open Go.RowKit
set_option maxRecDepth 100000

/-- what was read, judged: the code, the chunk's samples -/
def fitR (C : CsT) (ch : Nat) (f : FrD) (R : List RC × Nat) : Nat × List Sm :=
  if R.2 = 0 ∧ R.1.length = f.cn ∧ f.fn < f.cn ∧ R.1.length ≤ ch ∧ opensB C (((R.1.map smpR).head?.getD (0, 0)).1) = true then (0, R.1.map smpR) else (61, [])
/-- the frame's bits behind those that stay -/
def fitJ (C : CsT) (ch : Nat) (f : FrD) (old : List Bool) : Nat × List Sm :=
  if soundB f.l f.n = false then (61, []) else fitR C ch f (allC (pack (old ++ bitl f.l f.n.toNat)) (((old ++ bitl f.l f.n.toNat).length : Nat) : Int))
def oldC (C : CsT) (f : FrD) : Option (List Bool) := if (f.fc, f.fb, f.fn) = endC C then some (bitsL (lastL C)) else if (f.fc, f.fb, f.fn) = (C.length - 1, 0, 0) then some [] else none
def fitC (C : CsT) (ch : Nat) (f : FrD) : Nat × List Sm := match oldC C f with
  | none => (122, [])
  | some old => fitJ C ch f old
def fullD (D : BD) (x : Nat) : Bool := decide ((lookM D.M x).isNone ∧ D.mo ≤ D.M.length)
def fitD (D : BD) (f : FrD) : Nat × List Sm := if fullD D f.se = true then (121, []) else fitC (D.at_ f.se) D.ch f
theorem fitR_ok {C : CsT} {ch : Nat} {f : FrD} {R : List RC × Nat} (h : (fitR C ch f R).1 = 0) : R.2 = 0 ∧ R.1.length = f.cn ∧ f.fn < f.cn ∧ R.1.length ≤ ch ∧ opensB C (((R.1.map smpR).head?.getD (0, 0)).1) = true ∧ (fitR C ch f R).2 = R.1.map smpR := by
  unfold fitR at h ⊢
  split
  · rename_i k
    exact ⟨k.1, k.2.1, k.2.2.1, k.2.2.2.1, k.2.2.2.2, rfl⟩
  · rename_i k
    rw [if_neg k] at h
    cases h
/-- what a fitting frame's samples are -/
structure FitS (C : CsT) (ch : Nat) (bs : List Bool) (S : List Sm) : Prop where
  inc : InC S
  rise : RiseC ec0 S
  bits : bitsL S = bs
  pos : 0 < S.length
  len : S.length ≤ ch
  op : ∀ x, S.head? = some x → opensB C x.1 = true
  all : allC (pack bs) ((bs.length : Nat) : Int) = (rcS 0 ec0 S, 0)
theorem fit_S {C : CsT} {ch : Nat} {f : FrD} {bs : List Bool} (hb : (pack bs).length ≤ 100000) (h : (fitR C ch f (allC (pack bs) ((bs.length : Nat) : Int))).1 = 0) : FitS C ch bs (fitR C ch f (allC (pack bs) ((bs.length : Nat) : Int))).2 := by
  obtain ⟨h1, h2, h3, h4, h5, h6⟩ := fitR_ok h
  rw [h6]
  rcases allC_cases (sound_pack bs) hb with ⟨S, e1, e2, e3, e4⟩ | e1
  · rw [e1] at h1 h2 h4 h5 ⊢
    dsimp only at h2 h4 h5 ⊢
    rw [rcS_smp] at h5 ⊢
    rw [rcS_length] at h2 h4
    refine ⟨e4, e3, ?_, by omega, h4, fun x hx => ?_, e1⟩
    · rw [bits_pack] at e2
      exact e2
    · rw [hx] at h5
      exact h5
  · rw [e1] at h1
    cases h1
theorem fitJ_S {C : CsT} {ch : Nat} {f : FrD} {old : List Bool} (hb : (pack (old ++ bitl f.l f.n.toNat)).length ≤ 100000) (h : (fitJ C ch f old).1 = 0) : soundB f.l f.n = true ∧ FitS C ch (old ++ bitl f.l f.n.toNat) (fitJ C ch f old).2 := by
  unfold fitJ at h ⊢
  split
  · rename_i k
    rw [if_pos k] at h
    cases h
  · rename_i k
    rw [if_neg k] at h
    exact ⟨by simpa using k, fit_S hb h⟩
end Go.Proofs.YtiliineopplinaaDoor

/- Layer 12: a book once a frame is taken: its data. -/
set_option linter.unusedSimpArgs false
set_option linter.unusedVariables false
namespace Go.Proofs.YtiliineopplinaaDoor
open Go.RowKit

/-- a book once a frame is taken, or refused -/
def takeD (D : BD) (f : FrD) : BD := if (fitD D f).1 = 0 then ⟨D.mo, D.ch, putM D.M f.se (setLast (D.at_ f.se) (fitD D f).2 f.cl)⟩ else D
theorem pair_of {S : List Sm} (hi : InC S) (hr : RiseC ec0 S) (hl : S.length ≤ 1000000) : S.Pairwise fun a b => a.1 < b.1 := by
  have h := (RiseC_iff S hi hl).1 hr
  refine List.pairwise_iff_getElem.2 fun i j hi hj hij => ?_
  obtain ⟨d, rfl⟩ : ∃ d, j = i + 1 + d := ⟨j - (i + 1), by omega⟩
  clear hij
  induction d with
  | zero => exact h i hj
  | succ d ih =>
    have h1 := ih (by omega)
    have h2 := h (i + 1 + d) hj
    exact Int.lt_trans h1 h2
theorem FitS.pair {C : CsT} {ch : Nat} {bs : List Bool} {S : List Sm} (h : FitS C ch bs S) (oc : OkC1 C) (hch : ch ≤ 1000) : (C.dropLast.flatten ++ S).Pairwise fun a b => a.1 < b.1 := by
  have hS := pair_of h.inc h.rise (by have := h.len; omega)
  have hC : C.dropLast.flatten.Pairwise fun a b => a.1 < b.1 := by
    have h1 := oc.rise
    rw [cs_flat oc.ne] at h1
    exact (List.pairwise_append.1 h1).1
  refine List.pairwise_append.2 ⟨hC, hS, fun a ha b hb => ?_⟩
  cases hg : C.dropLast.flatten.getLast? with
  | none => rw [List.getLast?_eq_none_iff.1 hg] at ha; cases ha
  | some y =>
    have hay : a.1 ≤ y.1 := by
      have hne : C.dropLast.flatten ≠ [] := fun e => by rw [e] at ha; cases ha
      have e1 : C.dropLast.flatten = C.dropLast.flatten.dropLast ++ [y] := by
        rw [List.getLast?_eq_some_getLast hne] at hg
        injection hg with hg
        rw [← hg, List.dropLast_concat_getLast]
      rw [e1] at ha hC
      rcases List.mem_append.1 ha with ha | ha
      · exact Int.le_of_lt ((List.pairwise_append.1 hC).2.2 a ha y (List.mem_singleton.2 rfl))
      · rw [List.mem_singleton.1 ha]; exact Int.le_refl _
    cases hs : S with
    | nil => rw [hs] at hb; cases hb
    | cons x r =>
      have h1 := h.op x (by rw [hs]; rfl)
      rw [opensB_some hg, decide_eq_true_eq] at h1
      rw [hs] at hb hS
      rcases List.mem_cons.1 hb with rfl | hb
      · omega
      · have := (List.pairwise_cons.1 hS).1 b hb
        omega
theorem oldC_cases {C : CsT} {f : FrD} {old : List Bool} (h : oldC C f = some old) : old = bitsL (lastL C) ∨ old = [] := by
  unfold oldC at h
  split at h
  · injection h with h; exact .inl h.symm
  · split at h
    · injection h with h; exact .inr h.symm
    · cases h
theorem fitD_S {D : BD} (hD : OkD D) {f : FrD} (hl : f.l.length ≤ 1000) (h : (fitD D f).1 = 0) : fullD D f.se = false ∧ ∃ old, oldC (D.at_ f.se) f = some old ∧ soundB f.l f.n = true ∧ FitS (D.at_ f.se) D.ch (old ++ bitl f.l f.n.toNat) (fitD D f).2 := by
  unfold fitD at h ⊢
  split at h
  · cases h
  · rename_i hf
    rw [if_neg hf]
    refine ⟨by simpa using hf, ?_⟩
    unfold fitC at h ⊢
    split at h
    · cases h
    · rename_i old ho
      rw [ho]
      by_cases hs : soundB f.l f.n = false
      · unfold fitJ at h
        rw [if_pos hs] at h
        cases h
      · have oc := hD.at_ f.se
        have hb : (pack (old ++ bitl f.l f.n.toNat)).length ≤ 100000 := by
          obtain ⟨nm, hnm, hn8, -⟩ := sound_nat (show soundB f.l f.n = true by simpa using hs)
          have h1 := bits_small (oc.lenL oc.lastM) (oc.incL oc.lastM)
          have h2 : old.length ≤ 146000 := by
            rcases oldC_cases ho with e | e
            · rw [e]; exact h1
            · rw [e]; decide
          rw [pack_length, List.length_append, bitl_length, hnm, Int.toNat_natCast]
          unfold nb
          omega
        obtain ⟨h1, h2⟩ := fitJ_S hb h
        exact ⟨old, rfl, h1, h2⟩
theorem setLast_ne {C : CsT} {L : List Sm} {b : Bool} (h : L ≠ []) : (setLast C L b).flatten ≠ [] := by
  cases L with
  | nil => exact absurd rfl h
  | cons x r => unfold setLast; cases b <;> simp
theorem OkD.take {D : BD} (h : OkD D) {f : FrD} (hx : f.se < 4294967296) (hl : f.l.length ≤ 1000) (hn : (D.at_ f.se).flatten.length + 24 ≤ 1000) : OkD (takeD D f) := by
  unfold takeD
  split
  · rename_i h0
    obtain ⟨h1, old, -, -, h2⟩ := fitD_S h hl h0
    have hne : (fitD D f).2 ≠ [] := fun e => by have := h2.pos; rw [e] at this; cases this
    have oc := h.at_ f.se
    have hch := h.ch2
    refine h.putM hx (oc.set (fun _ => hne) h2.inc (h2.pair oc (by omega)) ?_) (setLast_ne hne) ?_
    · have h3 := h2.len
      have h4 : (D.at_ f.se).dropLast.flatten.length ≤ (D.at_ f.se).flatten.length := by
        conv => rhs; rw [cs_flat oc.ne]
        rw [List.length_append]; omega
      omega
    · unfold fullD at h1
      simpa using h1
  · exact h
end Go.Proofs.YtiliineopplinaaDoor
