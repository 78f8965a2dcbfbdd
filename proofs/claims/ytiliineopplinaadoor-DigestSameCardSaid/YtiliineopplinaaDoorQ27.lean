/- Joined: DgK. -/
import Derived.Test.YtiliineopplinaaDoorQ18
import Derived.Test.YtiliineopplinaaDoorQ1
import Derived.DeepKeys4
import Derived.Test.YtiliineopplinaaDoorChecked
set_option linter.unusedSimpArgs false
set_option linter.unusedVariables false
/- Layer 26: keys that are structs of numbers. -/
set_option linter.unusedSimpArgs false
set_option linter.unusedVariables false
namespace Go.Proofs.YtiliineopplinaaDoor
open Go.RowKit Go.ChangeMaps Go.MapKept
open Go.Maps (Keyed)
set_option maxRecDepth 100000

theorem wf_u32 (a : Nat) (h : a < 4294967296) : (Lit.int .u32 (a : Int)).wf = true := by
  show (decide ((0 : Int) ≤ (a : Int)) && decide ((a : Int) ≤ 2 ^ 32 - 1)) = true
  rw [decide_eq_true (by omega), decide_eq_true (by omega)]
  rfl
theorem wf_u64 (a : Nat) (h : a < 18446744073709551616) : (Lit.int .u64 (a : Int)).wf = true := by
  show (decide ((0 : Int) ≤ (a : Int)) && decide ((a : Int) ≤ 2 ^ 64 - 1)) = true
  rw [decide_eq_true (by omega), decide_eq_true (by omega)]
  rfl
abbrev KyD := Nat × Nat
def kyE (k : KyD) : Value := .agg #[.int .u32 ((k.1 : Nat) : Int), .int .u32 ((k.2 : Nat) : Int)]
theorem ky_key (k : KyD) (h : k.1 < 4294967296 ∧ k.2 < 4294967296) : ∃ l, keyOf Tryd.prog 71 (kyE k) = some l := by
  obtain ⟨m, hm⟩ : ∃ m, Tryd.prog.types.size = m + 1 := ⟨Tryd.prog.types.size - 1, by kernel_rfl⟩
  have hk : Tryd.prog.keyType 71 = true := by kernel_rfl
  have c1 : Tryd.prog.cellsOf 71 = 2 := by kernel_rfl
  have c2 : Tryd.prog.cellsOf 23 = 1 := by kernel_rfl
  have w1 := wf_u32 k.1 h.1
  have w2 := wf_u32 k.2 h.2
  have hf : (kyE k).formed Tryd.prog 71 = true := by simp [kyE, Value.formed, Tryd.underlying71, c1]
  have hu := Tryd.underlying71
  have ku32 : ∀ (d n : Nat), (Lit.int .u32 (n : Int)).wf = true → Tryd.prog.keyLits (d + 1) 23 [.int .u32 (n : Nat)] = some [.int .u32 (n : Nat)] := fun d n hn => by
    unfold Program.keyLits
    rw [Tryd.underlying23]
    simp only [hn, and_self, if_true]
  have k0 : Tryd.prog.keyLits (m + 1 + 1) 71 [.int .u32 (k.1 : Nat), .int .u32 (k.2 : Nat)] = some [.int .u32 (k.1 : Nat), .int .u32 (k.2 : Nat)] := by
    unfold Program.keyLits
    rw [hu]
    dsimp only
    rw [c1, if_pos ⟨rfl, by kernel_rfl⟩]
    simp [List.mapM_cons, c2, ku32 _ _ w1, ku32 _ _ w2]
  unfold keyOf
  rw [hu]
  simp only [hk, hf, Bool.and_self, if_true]
  rw [hm]
  exact ⟨_, by rw [show (kyE k).cells.toList = [.int .u32 (k.1 : Nat), .int .u32 (k.2 : Nat)] from rfl, k0]; rfl⟩
theorem dgLaid : laidOutB Tryd.prog = true := by kernel_rfl
theorem ky_law : Keyed Tryd.prog 71 := Keyed.of_law (deep_law_laid dgLaid (m := 100) (by decide) (of_decide_eq_true (by kernel_rfl)) (by kernel_rfl) (by kernel_rfl))
def KCy : KyC KyD := ⟨71, kyE, fun k => k.1 < 4294967296 ∧ k.2 < 4294967296, ky_law, ky_key, fun x y h => by
  unfold kyE at h
  simp only [Value.agg.injEq, Array.mk.injEq, List.cons.injEq, Value.int.injEq, true_and, and_true] at h
  have h1 := h.1
  have h2 := h.2
  exact Prod.ext (by omega) (by omega)⟩
def lfV (x : LfD) : Value := .agg #[.int .u32 ((x.1 : Nat) : Int), .int .u32 ((x.2.1 : Nat) : Int), .int .u32 ((x.2.2.1 : Nat) : Int), .int .u64 ((x.2.2.2 : Nat) : Int)]
def lfOkK (x : LfD) : Prop := x.1 < 4294967296 ∧ x.2.1 < 4294967296 ∧ x.2.2.1 < 4294967296 ∧ x.2.2.2 < 18446744073709551616
theorem lf_key (x : LfD) (h : lfOkK x) : ∃ l, keyOf Tryd.prog 26 (lfV x) = some l := by
  obtain ⟨m, hm⟩ : ∃ m, Tryd.prog.types.size = m + 1 := ⟨Tryd.prog.types.size - 1, by kernel_rfl⟩
  have hk : Tryd.prog.keyType 26 = true := by kernel_rfl
  have c1 : Tryd.prog.cellsOf 26 = 4 := by kernel_rfl
  have c2 : Tryd.prog.cellsOf 23 = 1 := by kernel_rfl
  have c3 : Tryd.prog.cellsOf 24 = 1 := by kernel_rfl
  have w1 := wf_u32 x.1 h.1
  have w2 := wf_u32 x.2.1 h.2.1
  have w3 := wf_u32 x.2.2.1 h.2.2.1
  have w4 := wf_u64 x.2.2.2 h.2.2.2
  have hf : (lfV x).formed Tryd.prog 26 = true := by simp [lfV, Value.formed, Tryd.underlying26, c1]
  have hu := Tryd.underlying26
  have ku32 : ∀ (d n : Nat), (Lit.int .u32 (n : Int)).wf = true → Tryd.prog.keyLits (d + 1) 23 [.int .u32 (n : Nat)] = some [.int .u32 (n : Nat)] := fun d n hn => by
    unfold Program.keyLits
    rw [Tryd.underlying23]
    simp only [hn, and_self, if_true]
  have ku64 : ∀ (d n : Nat), (Lit.int .u64 (n : Int)).wf = true → Tryd.prog.keyLits (d + 1) 24 [.int .u64 (n : Nat)] = some [.int .u64 (n : Nat)] := fun d n hn => by
    unfold Program.keyLits
    rw [Tryd.underlying24]
    simp only [hn, and_self, if_true]
  have k0 : Tryd.prog.keyLits (m + 1 + 1) 26 [.int .u32 (x.1 : Nat), .int .u32 (x.2.1 : Nat), .int .u32 (x.2.2.1 : Nat), .int .u64 (x.2.2.2 : Nat)] = some [.int .u32 (x.1 : Nat), .int .u32 (x.2.1 : Nat), .int .u32 (x.2.2.1 : Nat), .int .u64 (x.2.2.2 : Nat)] := by
    unfold Program.keyLits
    rw [hu]
    dsimp only
    rw [c1, if_pos ⟨rfl, by kernel_rfl⟩]
    simp [List.mapM_cons, c2, c3, ku32 _ _ w1, ku32 _ _ w2, ku32 _ _ w3, ku64 _ _ w4]
  unfold keyOf
  rw [hu]
  simp only [hk, hf, Bool.and_self, if_true]
  rw [hm]
  exact ⟨_, by rw [show (lfV x).cells.toList = [.int .u32 (x.1 : Nat), .int .u32 (x.2.1 : Nat), .int .u32 (x.2.2.1 : Nat), .int .u64 (x.2.2.2 : Nat)] from rfl, k0]; rfl⟩
theorem lf_law : Keyed Tryd.prog 26 := Keyed.of_law (deep_law_laid dgLaid (m := 100) (by decide) (of_decide_eq_true (by kernel_rfl)) (by kernel_rfl) (by kernel_rfl))
def KCl : KyC LfD := ⟨26, lfV, lfOkK, lf_law, lf_key, fun x y h => by
  unfold lfV at h
  simp only [Value.agg.injEq, Array.mk.injEq, List.cons.injEq, Value.int.injEq, true_and, and_true] at h
  obtain ⟨h1, h2, h3, h4⟩ := h
  exact Prod.ext (by omega) (Prod.ext (by omega) (Prod.ext (by omega) (by omega)))⟩
end Go.Proofs.YtiliineopplinaaDoor
