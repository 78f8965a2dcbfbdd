/- Joined: DgK. -/
import Derived.Test.YtiliineopplinaaGreatDoorQ18
import Derived.Test.YtiliineopplinaaGreatDoorQ1
import Derived.DeepKeys4
import Derived.Test.YtiliineopplinaaGreatDoorChecked
set_option linter.unusedSimpArgs false
set_option linter.unusedVariables false
set_option linter.unusedSimpArgs false
set_option linter.unusedVariables false
namespace Go.Proofs.YtiliineopplinaaGreatDoor
open Go.RowKit Go.ChangeMaps Go.MapKept
open Go.Maps (Keyed)
set_option maxRecDepth 100000
theorem wf_u32 (a : Nat) (h : a < 4294967296) : (Lit.int .u32 (a : Int)).wf = true := by
 show (decide ((0 : Int) ≤ (a : Int)) && decide ((a : Int) ≤ 2 ^ 32 - 1)) = true
 rw [decide_eq_true (by omega), decide_eq_true (by omega)]
 rfl
theorem wf_u64 (a : Nat) (h : a < 18446744073709551616) : (Lit.int .u64 (a : Int)).wf = true := by
 show (decide ((0 : Int) ≤ (a : Int)) && decide ((a : Int) ≤ 2 ^ 64 - 1)) = true
 rw [decide_eq_true (by omega), decide_eq_true (by omega)]
 rfl
abbrev KyD := Nat × Nat
def kyE (k : KyD) : Value := .agg #[.int .u32 ((k.1 : Nat) : Int), .int .u32 ((k.2 : Nat) : Int)]
theorem ky_key (k : KyD) (h : k.1 < 4294967296 ∧ k.2 < 4294967296) : ∃ l, keyOf Tryz.prog 94 (kyE k) = some l := by
 obtain ⟨m, hm⟩ : ∃ m, Tryz.prog.types.size = m + 1 := ⟨Tryz.prog.types.size - 1, by kernel_rfl⟩
 have hk : Tryz.prog.keyType 94 = true := by kernel_rfl
 have c1 : Tryz.prog.cellsOf 94 = 2 := by kernel_rfl
 have c2 : Tryz.prog.cellsOf 35 = 1 := by kernel_rfl
 have w1 := wf_u32 k.1 h.1
 have w2 := wf_u32 k.2 h.2
 have hf : (kyE k).formed Tryz.prog 94 = true := by simp [kyE, Value.formed, Tryz.underlying94, c1]
 have hu := Tryz.underlying94
 have ku32 : ∀ (d n : Nat), (Lit.int .u32 (n : Int)).wf = true → Tryz.prog.keyLits (d + 1) 35 [.int .u32 (n : Nat)] = some [.int .u32 (n : Nat)] := fun d n hn => by
  unfold Program.keyLits
  rw [Tryz.underlying35]
  simp only [hn, and_self, if_true]
 have k0 : Tryz.prog.keyLits (m + 1 + 1) 94 [.int .u32 (k.1 : Nat), .int .u32 (k.2 : Nat)] = some [.int .u32 (k.1 : Nat), .int .u32 (k.2 : Nat)] := by
  unfold Program.keyLits
  rw [hu]
  dsimp only
  rw [c1, if_pos ⟨rfl, by kernel_rfl⟩]
  simp [List.mapM_cons, c2, ku32 _ _ w1, ku32 _ _ w2]
 unfold keyOf
 rw [hu]
 simp only [hk, hf, Bool.and_self, if_true]
 rw [hm]
 exact ⟨_, by rw [show (kyE k).cells.toList = [.int .u32 (k.1 : Nat), .int .u32 (k.2 : Nat)] from rfl, k0]; rfl⟩
theorem dgLaid : laidOutB Tryz.prog = true := by kernel_rfl
theorem ky_law : Keyed Tryz.prog 94 := Keyed.of_law (deep_law_laid dgLaid (m := 100) (by decide) (of_decide_eq_true (by kernel_rfl)) (by kernel_rfl) (by kernel_rfl))
def KCy : KyC KyD := ⟨94, kyE, fun k => k.1 < 4294967296 ∧ k.2 < 4294967296, ky_law, ky_key, fun x y h => by
 unfold kyE at h
 simp only [Value.agg.injEq, Array.mk.injEq, List.cons.injEq, Value.int.injEq, true_and, and_true] at h
 have h1 := h.1
 have h2 := h.2
 exact Prod.ext (by omega) (by omega)⟩
def lfV (x : LfD) : Value := .agg #[.int .u32 ((x.1 : Nat) : Int), .int .u32 ((x.2.1 : Nat) : Int), .int .u32 ((x.2.2.1 : Nat) : Int), .int .u64 ((x.2.2.2 : Nat) : Int)]
def lfOkK (x : LfD) : Prop := x.1 < 4294967296 ∧ x.2.1 < 4294967296 ∧ x.2.2.1 < 4294967296 ∧ x.2.2.2 < 18446744073709551616
theorem lf_key (x : LfD) (h : lfOkK x) : ∃ l, keyOf Tryz.prog 57 (lfV x) = some l := by
 obtain ⟨m, hm⟩ : ∃ m, Tryz.prog.types.size = m + 1 := ⟨Tryz.prog.types.size - 1, by kernel_rfl⟩
 have hk : Tryz.prog.keyType 57 = true := by kernel_rfl
 have c1 : Tryz.prog.cellsOf 57 = 4 := by kernel_rfl
 have c2 : Tryz.prog.cellsOf 35 = 1 := by kernel_rfl
 have c3 : Tryz.prog.cellsOf 38 = 1 := by kernel_rfl
 have w1 := wf_u32 x.1 h.1
 have w2 := wf_u32 x.2.1 h.2.1
 have w3 := wf_u32 x.2.2.1 h.2.2.1
 have w4 := wf_u64 x.2.2.2 h.2.2.2
 have hf : (lfV x).formed Tryz.prog 57 = true := by simp [lfV, Value.formed, Tryz.underlying57, c1]
 have hu := Tryz.underlying57
 have ku32 : ∀ (d n : Nat), (Lit.int .u32 (n : Int)).wf = true → Tryz.prog.keyLits (d + 1) 35 [.int .u32 (n : Nat)] = some [.int .u32 (n : Nat)] := fun d n hn => by
  unfold Program.keyLits
  rw [Tryz.underlying35]
  simp only [hn, and_self, if_true]
 have ku64 : ∀ (d n : Nat), (Lit.int .u64 (n : Int)).wf = true → Tryz.prog.keyLits (d + 1) 38 [.int .u64 (n : Nat)] = some [.int .u64 (n : Nat)] := fun d n hn => by
  unfold Program.keyLits
  rw [Tryz.underlying38]
  simp only [hn, and_self, if_true]
 have k0 : Tryz.prog.keyLits (m + 1 + 1) 57 [.int .u32 (x.1 : Nat), .int .u32 (x.2.1 : Nat), .int .u32 (x.2.2.1 : Nat), .int .u64 (x.2.2.2 : Nat)] = some [.int .u32 (x.1 : Nat), .int .u32 (x.2.1 : Nat), .int .u32 (x.2.2.1 : Nat), .int .u64 (x.2.2.2 : Nat)] := by
  unfold Program.keyLits
  rw [hu]
  dsimp only
  rw [c1, if_pos ⟨rfl, by kernel_rfl⟩]
  simp [List.mapM_cons, c2, c3, ku32 _ _ w1, ku32 _ _ w2, ku32 _ _ w3, ku64 _ _ w4]
 unfold keyOf
 rw [hu]
 simp only [hk, hf, Bool.and_self, if_true]
 rw [hm]
 exact ⟨_, by rw [show (lfV x).cells.toList = [.int .u32 (x.1 : Nat), .int .u32 (x.2.1 : Nat), .int .u32 (x.2.2.1 : Nat), .int .u64 (x.2.2.2 : Nat)] from rfl, k0]; rfl⟩
theorem lf_law : Keyed Tryz.prog 57 := Keyed.of_law (deep_law_laid dgLaid (m := 100) (by decide) (of_decide_eq_true (by kernel_rfl)) (by kernel_rfl) (by kernel_rfl))
def KCl : KyC LfD := ⟨57, lfV, lfOkK, lf_law, lf_key, fun x y h => by
 unfold lfV at h
 simp only [Value.agg.injEq, Array.mk.injEq, List.cons.injEq, Value.int.injEq, true_and, and_true] at h
 obtain ⟨h1, h2, h3, h4⟩ := h
 exact Prod.ext (by omega) (Prod.ext (by omega) (Prod.ext (by omega) (by omega)))⟩
end Go.Proofs.YtiliineopplinaaGreatDoor
