/- Layer 14, the document: New, At, Stop. -/
import Derived.Test.YtgadedpcekiljaaTm2
import Derived.Test.YtgadedpcekiljaaTurnR
set_option linter.unusedSimpArgs false
set_option linter.unusedVariables false
namespace Go.Proofs.Ytgadedpcekiljaa
open Go.RowKit
set_option maxRecDepth 100000

/-- a timer of the document: series, tries, when -/
def encT (x : Nat × Nat × Nat) : List Value := [.int .u32 ((x.1 : Nat) : Int), .int .i64 ((x.2.1 : Nat) : Int), .int .u64 ((x.2.2 : Nat) : Int)]
theorem Try.eltT : Elt Try.prog 50 57 encT 3 24 := ⟨Try.underlying50, ⟨.agg #[.int .u32 0, .int .i64 0, .int .u64 0], by kernel_rfl, rfl⟩, by decide, fun _ => rfl, fun x v h => by
  unfold encT at h
  simp only [List.mem_cons, List.not_mem_nil, or_false] at h
  rcases h with rfl | rfl | rfl <;> rfl⟩
/-- the document's timers at block q -/
def Rt (B : Nat) (w0 w : World) (q tk : Nat) (L : List (Nat × Nat × Nat)) (ts : List Kt) : Prop := ∃ A n c, n = L.length ∧ Sep B w0 w (thB q 52 #[.int .u64 (tk : Nat), .slice A n c] :: thR 57 encT 3 (.slice A n c) L :: ts)
theorem rtnew_any (n : Nat) (h1 : 1 ≤ n) (h2 : n ≤ 1000) (w : World) : Calls Try.prog 10 #[.int .i64 (n : Nat)] w fun e w' => e = .returned (.pointer (some ⟨w.heap.size, 0, none⟩)) ∧ w' = w.alloc (.cells #[.int .u64 (n : Nat), .slice none 0 0] 52) := by
  have k1 : ¬ (n : Int) < 1 := by omega
  have k2 : ¬ (1000 : Int) < (n : Int) := by omega
  have hw : IntKind.u64.wrap (n : Int) = (n : Int) := by rw [IntKind.wrap_u64]; omega
  go_enter Try.func10, Try.ntmps10
  go_wp2_with fail
  go_ret
  exact ⟨rfl, rfl⟩
theorem rtnew_none (n : Int) (h : n < 1 ∨ 1000 < n) (w : World) : Calls Try.prog 10 #[.int .i64 n] w fun e w' => e = .returned (.pointer none) ∧ w' = w := by
  by_cases k1 : n < 1
  · go_enter Try.func10, Try.ntmps10
    go_wp2_with fail
    go_ret
    exact ⟨rfl, rfl⟩
  · have k2 : (1000 : Int) < n := by omega
    go_enter Try.func10, Try.ntmps10
    go_wp2_with fail
    go_ret
    exact ⟨rfl, rfl⟩
theorem drop_look {α : Type} {L : List (Nat × α)} {k : Nat} {y : Nat × α} (h : L[k]? = some y) (x : Nat) : lookM (L.drop k) x = if y.1 = x then some y.2 else lookM (L.drop (k + 1)) x := by
  obtain ⟨h1, h2⟩ := List.getElem?_eq_some_iff.1 h
  rw [List.drop_eq_getElem_cons h1, lookM_cons, h2]
set_option maxHeartbeats 4000000 in
theorem rtat_any {B : Nat} {w0 w : World} {ts : List Kt} {q tk : Nat} {L : List (Nat × Nat × Nat)} (h : Rt B w0 w q tk L ts) (x : Nat) (hL : L.length ≤ 1000000) :
    Calls Try.prog 12 #[.pointer (some ⟨q, 0, none⟩), .int .u32 (x : Nat)] w fun e w' => e = .returned (.tuple #[.int .u64 ((((lookM L x).getD (0, 0)).2 : Nat) : Int), .bool (lookM L x).isSome]) ∧ Below w.heap.size w w' := by
  obtain ⟨A, n, c, hn, hs⟩ := h
  obtain ⟨ro, hro⟩ : ∃ r, r = lookM L x := ⟨_, rfl⟩
  rw [← hro]
  have HX := Lib.hid (And.intro hs (And.intro hn hro))
  have hnl : n ≤ 1000000 := by omega
  clear hs hn hro hL
  go_enter Try.func12, Try.ntmps12
  go_wp2_with fail
  go_loopg [6] n (fun gh s wr => ∃ k : Nat, s = .int .i64 k ∧ k + gh = n ∧ Hid (Below w.heap.size w wr ∧ lookM (L.drop k) x = ro))
  case atStart => exact ⟨0, rfl, Nat.zero_add _, Lib.hid ⟨Below.refl _ _, HX.out.2.2.symm⟩⟩
  case round =>
    obtain ⟨k, rfl, hkg, HR⟩ := hrel
    have hs := HX.out.1.go HR.out.1
    have C : cellsSay wr q 0 [.int .u64 (tk : Nat), .slice A n c] := cells_say (hs.blk 0) _ 0 rfl
    simp only [cellsSay, Nat.reduceAdd, and_true] at C
    by_cases hk : k < n
    · have hkl : (k : Int) < (n : Int) := by omega
      have hk0 : (0 : Int) ≤ (k : Int) := by omega
      obtain ⟨y, hy⟩ : ∃ y, L[k]? = some y := ⟨_, List.getElem?_eq_getElem (by have := HX.out.2.1; omega)⟩
      have hd := HR.out.2
      rw [drop_look hy] at hd
      obtain ⟨g, rfl, hnl2, hc⟩ := row_at Try.eltT (hs.at_ 1 rfl) hy
      obtain ⟨ys, yt, ya⟩ := y
      have c0 := hc 0 _ rfl
      have c2 := hc 2 _ rfl
      simp only [Nat.add_zero] at c0
      have HS := Lib.hid (And.intro hs hd)
      clear hs hy hd hnl2 hc hk
      by_cases hyx : ys = x
      · have hq : ((ys : Int) == (x : Int)) = true := beq_iff_eq.2 (by omega)
        have HF : Hid (ro = some (yt, ya)) := Lib.hid (by have := HS.out.2; rw [if_pos hyx] at this; exact this.symm)
        clear hyx
        go_wp2_with fail
        go_ret2
        rw [HF.out]
        exact ⟨rfl, HR.out.1⟩
      · have hq : ((ys : Int) == (x : Int)) = false := beq_eq_false_iff_ne.2 (by omega)
        have HF : Hid (lookM (L.drop (k + 1)) x = ro) := Lib.hid (by have := HS.out.2; rw [if_neg hyx] at this; exact this)
        clear hyx
        go_wp2_with fail
        go_roundg (n - (k + 1))
        case measure => omega
        case rel => exact ⟨k + 1, by go_num, by omega, Lib.hid ⟨HR.out.1, HF.out⟩⟩
    · have hkl : ¬ (k : Int) < (n : Int) := by omega
      have HF : Hid (ro = none) := Lib.hid (by
        have := HR.out.2
        rw [List.drop_eq_nil_of_le (by have := HX.out.2.1; omega)] at this
        exact this.symm)
      clear hk hs
      go_wp2_with fail
      go_ret2
      rw [HF.out]
      exact ⟨rfl, HR.out.1⟩

end Go.Proofs.Ytgadedpcekiljaa
