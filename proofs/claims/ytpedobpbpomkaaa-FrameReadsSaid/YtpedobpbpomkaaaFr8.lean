/- Layer 7: Decode of the document. -/
import Derived.Test.YtpedobpbpomkaaaFr7
import Derived.Test.YtpedobpbpomkaaaTail
import Derived.Test.YtpedobpbpomkaaaFrw
set_option linter.unusedSimpArgs false
set_option linter.unusedVariables false
namespace Go.Proofs.Ytpedobpbpomkaaa
open Go.RowKit
set_option maxRecDepth 100000

theorem refSum_eq (A : Option Addr) (c : Nat) (l : List UInt8) (w : World) (hA : Bs w A l) (hl : l.length ≤ 1000000) :
    Calls Try.prog 34 #[.slice A l.length c] w fun e w' => e = .returned (.int .u32 (crcL l : Nat)) ∧ w' = w := by
  refine (refSum_any A c l w hA hl).mono ?_
  rintro e w' ⟨x, hx, rfl, rfl⟩
  exact ⟨by rw [hx.out], rfl⟩
theorem Bs.cut {w : World} {p o : Nat} {l : List UInt8} (h : Bs w (some ⟨p, o, none⟩) l) (i n : Nat) : Bs w (some ⟨p, o + i, none⟩) ((l.drop i).take n) := fun j b hj => by
  rw [List.getElem?_take] at hj
  split at hj
  · rw [List.getElem?_drop] at hj
    obtain ⟨p', o', hA, hc⟩ := h _ b hj
    injection hA with e
    injection e with e1 e2 _
    subst e1; subst e2
    refine ⟨p, o + i, rfl, ?_⟩
    rw [Nat.add_assoc]; exact hc
  · cases hj
theorem bs_takeN {w : World} {A : Option Addr} {l : List UInt8} (h : Bs w A l) (n : Nat) : Bs w A (l.take n) := fun j b hj => by
  rw [List.getElem?_take] at hj
  split at hj
  · exact h j b hj
  · cases hj
theorem Bs.cutZ {w : World} {A : Option Addr} {l : List UInt8} (h : Bs w A l) (hl : 0 < l.length) : ∃ p o, A = some ⟨p, o, none⟩ := by
  obtain ⟨p, o, hA, _⟩ := h 0 _ (List.getElem?_eq_getElem hl)
  exact ⟨p, o, hA⟩
theorem num_part1 {l : List UInt8} {i : Nat} {x : UInt8} (h : l[i]? = some x) : num (part l i 1) = x.toNat := by
  obtain ⟨hi, he⟩ := List.getElem?_eq_some_iff.1 h
  unfold part
  rw [List.drop_eq_getElem_cons hi, he]
  simp [num]

/-- nothing -/
theorem frC_zero : frC zeroF none 0 = #[.int .u8 0, .int .u32 0, .int .u32 0, .int .u32 0, .int .u32 0, .int .u32 0, .int .u32 0, .bool false, .int .u64 0, .slice none 0 0, .int .i64 0] := rfl
theorem rfdec_short (A : Option Addr) (c : Nat) (l : List UInt8) (w : World) (hL : l.length ≤ 100000) (h : l.length < 44 ∨ 4096 < l.length) :
    Calls Try.prog 20 #[.slice A l.length c] w fun e w' => e = .returned (.tuple #[.agg (frC zeroF none 0), .int .i64 70]) ∧ Below w.heap.size w w' := by
  have HR := Lib.hid frC_zero
  have HF := Lib.hid (Blk.new w 30 #[.int .u8 0, .int .u32 0, .int .u32 0, .int .u32 0, .int .u32 0, .int .u32 0, .int .u32 0, .bool false, .int .u64 0, .slice none 0 0, .int .i64 0])
  have C := blk_says HF.out
  simp only [cellsSay, Nat.reduceAdd, and_true] at C
  by_cases h1 : l.length < 44
  · have hd : decide ((l.length : Int) < 44) = true := decide_eq_true (by omega)
    clear h h1
    go_enter Try.func20, Try.ntmps20
    go_wp2_with fail
    refine bodyPost_ret (v := .tuple #[.agg #[.int .u8 0, .int .u32 0, .int .u32 0, .int .u32 0, .int .u32 0, .int .u32 0, .int .u32 0, .bool false, .int .u64 0, .slice none 0 0, .int .i64 0], .int .i64 70]) (by simp [results, Try.results20, go_sem, C]) rfl ⟨by rw [HR.out], ?_⟩
    exact below_alloc _ _
  · have hd : decide ((l.length : Int) < 44) = false := decide_eq_false (by omega)
    have hd2 : decide ((4096 : Int) < l.length) = true := decide_eq_true (by omega)
    clear h h1
    go_enter Try.func20, Try.ntmps20
    go_wp2_with fail
    refine bodyPost_ret (v := .tuple #[.agg #[.int .u8 0, .int .u32 0, .int .u32 0, .int .u32 0, .int .u32 0, .int .u32 0, .int .u32 0, .bool false, .int .u64 0, .slice none 0 0, .int .i64 0], .int .i64 70]) (by simp [results, Try.results20, go_sem, C]) rfl ⟨by rw [HR.out], ?_⟩
    exact below_alloc _ _

end Go.Proofs.Ytpedobpbpomkaaa
