/- Layer 13: clear of a row's end; slices.IndexFunc with what remove hands it. -/
import Derived.Test.YtlchnpmiaemobaaWin5
import Derived.Test.YtlchnpmiaemobaaFoot
import Derived.Test.YtlchnpmiaemobaaMakRN
import Derived.Lib.SliceRun
import Derived.Deep.DeepCutAuto
set_option linter.unusedSimpArgs false
set_option linter.unusedVariables false
namespace Go.Proofs.Ytlchnpmiaemobaa
open Go.RowKit
set_option maxRecDepth 100000

/-- several facts as one -/
def kL (ks : List Kq) : Kq := ⟨fun w => Qs w ks, fun g => apAll g ks, fun _ => True, fun _ _ _ h hg ha => h.grow hg ha, fun _ _ => trivial⟩

/-- the end of a row cleared -/
theorem run_clearR {P : Program} {α : Type} {t e : TypeId} {enc : α → List Value} {sz bytes : Nat} (E : Elt P t e enc sz bytes) (z : Value) (hv : ∀ w, (zeroValue e).run P w = .ok z w) (hz : z.cells.size = sz) (h1 : ∀ u ∈ z.cells.toList, u.oneCell' = true)
    (w : World) (base g n cap c2 : Nat) (ty : TypeId) (l : List α) (h : OwnR w base e enc sz (.slice (some ⟨g, 0, none⟩) n cap) l) (hn : n = l.length) (i : Nat) (hi : i < n) :
    ∃ w', (Builtin.clear_ #[t] ty #[.slice (some ⟨g, i * sz, none⟩) (n - i) c2]).run P w = .ok (.tuple #[]) w' ∧ OwnR w' base e enc sz (.slice (some ⟨g, 0, none⟩) i cap) (l.take i) ∧ w.grownBy w' (some g) := by
  subst hn
  obtain ⟨hl, hr⟩ := h
  rcases hr with ⟨e0, _⟩ | ⟨g', cap', cur, e0, hb, hg, hn, hm, hs, ht⟩
  · cases e0
  · injection e0 with e1 e2 e3
    injection e1 with e1
    injection e1 with e1 _ _
    subst e1; subst e3
    have hzl : (Builtin.zeroCells z.cells (l.length - i)).toList.length = (l.length - i) * sz := by rw [Array.length_toList, size_zeroCells, hz]
    have hsz : (l.length - i) * sz + i * sz = l.length * sz := by rw [← Nat.add_mul]; congr 1; omega
    have hcs : l.length * sz ≤ cur.size := by rw [hs]; exact Nat.mul_le_mul_right _ hn
    have hst := run_storeCells_at (P := P) g (i * sz) e (Builtin.zeroCells z.cells (l.length - i)).toList 0 cur w hg (by rw [hzl]; omega) (fun v hv => by
      rw [Array.mem_toList_iff] at hv
      unfold Builtin.zeroCells at hv
      obtain ⟨j, hj, rfl⟩ := Array.mem_map.1 hv
      have hpos : 0 < z.cells.size := by rw [hz]; exact E.pos
      rw [getElem!_pos z.cells _ (Nat.mod_lt _ hpos)]
      exact h1 _ (by simp))
    refine ⟨w.setRow g (cur.toList.take (i * sz + 0) ++ (Builtin.zeroCells z.cells (l.length - i)).toList ++ cur.toList.drop (i * sz + 0 + (Builtin.zeroCells z.cells (l.length - i)).toList.length)).toArray, ?_, ?_, ?_⟩
    rotate_left
    · have hli : (l.take i).length = i := by rw [List.length_take]; omega
      unfold OwnR
      rw [hli]
      refine ⟨?_, .inr ⟨g, cap, _, rfl, hb, setRow_heap w g cur _ e (0, 0) hg, by omega, hm, ?_, ?_⟩⟩
      · rw [flat_length enc sz E.len, hli]
      · show (cur.toList.take (i * sz + 0) ++ (Builtin.zeroCells z.cells (l.length - i)).toList ++ cur.toList.drop (i * sz + 0 + (Builtin.zeroCells z.cells (l.length - i)).toList.length)).toArray.size = cap * sz
        simp only [List.size_toArray, List.length_append, List.length_take, List.length_drop, hzl, Array.length_toList, Nat.add_zero]
        omega
      · show (cur.toList.take (i * sz + 0) ++ (Builtin.zeroCells z.cells (l.length - i)).toList ++ cur.toList.drop (i * sz + 0 + (Builtin.zeroCells z.cells (l.length - i)).toList.length)).toArray.toList.take (i * sz) = _
        simp only [List.toList_toArray, Nat.add_zero]
        rw [List.append_assoc, List.take_append_of_le_length (by rw [List.length_take, Array.length_toList]; omega), List.take_take, Nat.min_self]
        have h5 : cur.toList.take (i * sz) = (cur.toList.take (l.length * sz)).take (i * sz) := by rw [List.take_take, Nat.min_eq_left (by omega)]
        rw [h5, ht]
        conv => lhs; rw [← List.take_append_drop i l, List.flatMap_append]
        rw [List.take_append_of_le_length (by rw [flat_length enc sz E.len, hli]; exact Nat.le_refl _), List.take_of_length_le (by rw [flat_length enc sz E.len, hli]; exact Nat.le_refl _)]
    · exact ⟨rfl, rfl, rfl, by simp, fun k _ hk => setRow_other w g k _ (fun e => hk (by rw [e]))⟩
    · obtain ⟨m, hm2⟩ : ∃ m, l.length - i = m + 1 := ⟨l.length - i - 1, by omega⟩
      rw [hm2] at hst ⊢
      simp [Builtin.clear_, run_underlying E.under, hv, hst]

def sumP : List PC → Int
  | [] => 0
  | p :: l => p.n + sumP l
theorem sumP_append (a b : List PC) : sumP (a ++ b) = sumP a + sumP b := by
  induction a with
  | nil => simp [sumP]
  | cons p a ih => simp only [List.cons_append, sumP, ih]; omega
def okP (l : List PC) : Prop := ∀ p ∈ l, 1 ≤ p.n ∧ p.n ≤ 65536
theorem sumP_nonneg : ∀ (l : List PC), okP l → 0 ≤ sumP l ∧ (l.length : Int) ≤ sumP l
  | [], _ => by simp [sumP]
  | p :: l, h => by
    have h1 := h p List.mem_cons_self
    have h2 := sumP_nonneg l (fun q hq => h q (List.mem_cons_of_mem _ hq))
    simp only [sumP, List.length_cons]
    omega
theorem okP.filter {l : List PC} (h : okP l) (f : PC → Bool) : okP (l.filter f) := fun p hp => h p (List.mem_filter.1 hp).1
theorem okP.take {l : List PC} (h : okP l) (k : Nat) : okP (l.take k) := fun p hp => h p (List.mem_of_mem_take hp)
theorem okP.drop {l : List PC} (h : okP l) (k : Nat) : okP (l.drop k) := fun p hp => h p (List.mem_of_mem_drop hp)
theorem sumP_parts (f : PC → Bool) : ∀ (l : List PC), sumP (l.filter f) + sumP (l.filter fun p => !f p) = sumP l
  | [] => rfl
  | p :: l => by
    have ih := sumP_parts f l
    by_cases h : f p = true
    · simp only [List.filter_cons, h, Bool.not_true, if_true, sumP]
      simp only [Bool.false_eq_true, if_false]
      omega
    · simp only [List.filter_cons, h, Bool.not_false, sumP]
      simp only [Bool.not_eq_true] at h
      simp only [h, Bool.not_false, if_true, Bool.false_eq_true, if_false, sumP]
      omega

/-- what DeleteFunc may know of the function that it is handed -/
def DelE (E : Kq) (g q1 q2 : Nat) (b : Int) (gone : PC → Bool) : Prop :=
  (∀ (W : World) (n : Int) (V : Value) (p : PC), gone p = false → E.P W → Blk W g 78 #[.int .i64 b, .int .i64 n, V] → 0 ≤ p.n → p.n ≤ n → n ≤ 1000000000000 →
    Calls Try.prog 54 #[.agg (encP p).toArray, .pointer (some ⟨q1, 0, none⟩), .pointer (some ⟨q2, 0, none⟩)] W fun e w' => e = .returned (.bool false) ∧ Below W.heap.size W w') ∧
  (∀ (W : World) (n : Int) (V : Value) (p : PC), gone p = true → E.P W → Blk W g 78 #[.int .i64 b, .int .i64 n, V] → 0 ≤ p.n → p.n ≤ n → n ≤ 1000000000000 →
    Calls Try.prog 54 #[.agg (encP p).toArray, .pointer (some ⟨q1, 0, none⟩), .pointer (some ⟨q2, 0, none⟩)] W fun e w' => e = .returned (.bool true) ∧ ∃ w2, Below W.heap.size W w2 ∧ w' = w2.setCell ⟨g, 1, none⟩ (.int .i64 (n - p.n)))

def lAck (s u q1 q2 g se a0 a1 a2 : Nat) : List Kq := [qB q2 24 #[.pointer (some ⟨g, 0, none⟩)], qB q1 36 #[.func (.func 38) #[] #[.pointer (some ⟨s, 0, none⟩), .pointer (some ⟨u, 0, none⟩)]], qB u 29 #[.int .u32 a0, .int .u32 a1, .int .u32 a2], qB s 27 #[.int .u32 se]]
def qAck (s u q1 q2 g se a0 a1 a2 : Nat) : Kq := kL (lAck s u q1 q2 g se a0 a1 a2)
def lDrop (s q1 q2 g se : Nat) : List Kq := [qB q2 24 #[.pointer (some ⟨g, 0, none⟩)], qB q1 36 #[.func (.func 39) #[] #[.pointer (some ⟨s, 0, none⟩)]], qB s 27 #[.int .u32 se]]
def qDrop (s q1 q2 g se : Nat) : Kq := kL (lDrop s q1 q2 g se)
theorem del_ack (s u q1 q2 g se a0 a1 a2 : Nat) (b : Int) : DelE (qAck s u q1 q2 g se a0 a1 a2) g q1 q2 b (goneA se a0 a2) := by
  constructor
  · intro W n V p hg hE h h0 h1 h2
    have K : Qs W _ := hE
    refine (rem1_ack s u q1 q2 g se a0 a1 a2 b n V p W (Qs.blk (ks := lAck s u q1 q2 g se a0 a1 a2) K 3) (Qs.blk (ks := lAck s u q1 q2 g se a0 a1 a2) K 2) (Qs.blk (ks := lAck s u q1 q2 g se a0 a1 a2) K 1) (Qs.blk (ks := lAck s u q1 q2 g se a0 a1 a2) K 0) h ⟨h0, h1⟩ h2).mono fun e w' he => ?_
    obtain ⟨he, ho⟩ := he
    rw [hg] at he ho
    rcases ho with ⟨e0, hb⟩ | ⟨e0, hb⟩
    · exact ⟨he, hb⟩
    · cases e0
  · intro W n V p hg hE h h0 h1 h2
    have K : Qs W _ := hE
    refine (rem1_ack s u q1 q2 g se a0 a1 a2 b n V p W (Qs.blk (ks := lAck s u q1 q2 g se a0 a1 a2) K 3) (Qs.blk (ks := lAck s u q1 q2 g se a0 a1 a2) K 2) (Qs.blk (ks := lAck s u q1 q2 g se a0 a1 a2) K 1) (Qs.blk (ks := lAck s u q1 q2 g se a0 a1 a2) K 0) h ⟨h0, h1⟩ h2).mono fun e w' he => ?_
    obtain ⟨he, ho⟩ := he
    rw [hg] at he ho
    rcases ho with ⟨e0, hb⟩ | ⟨e0, hb⟩
    · cases e0
    · exact ⟨he, hb⟩
theorem del_drop (s q1 q2 g se : Nat) (b : Int) : DelE (qDrop s q1 q2 g se) g q1 q2 b (goneD se) := by
  constructor
  · intro W n V p hg hE h h0 h1 h2
    have K : Qs W _ := hE
    refine (rem1_drop s q1 q2 g se b n V p W (Qs.blk (ks := lDrop s q1 q2 g se) K 2) (Qs.blk (ks := lDrop s q1 q2 g se) K 1) (Qs.blk (ks := lDrop s q1 q2 g se) K 0) h ⟨h0, h1⟩ h2).mono fun e w' he => ?_
    obtain ⟨he, ho⟩ := he
    rw [hg] at he ho
    rcases ho with ⟨e0, hb⟩ | ⟨e0, hb⟩
    · exact ⟨he, hb⟩
    · cases e0
  · intro W n V p hg hE h h0 h1 h2
    have K : Qs W _ := hE
    refine (rem1_drop s q1 q2 g se b n V p W (Qs.blk (ks := lDrop s q1 q2 g se) K 2) (Qs.blk (ks := lDrop s q1 q2 g se) K 1) (Qs.blk (ks := lDrop s q1 q2 g se) K 0) h ⟨h0, h1⟩ h2).mono fun e w' he => ?_
    obtain ⟨he, ho⟩ := he
    rw [hg] at he ho
    rcases ho with ⟨e0, hb⟩ | ⟨e0, hb⟩
    · cases e0
    · exact ⟨he, hb⟩

end Go.Proofs.Ytlchnpmiaemobaa
