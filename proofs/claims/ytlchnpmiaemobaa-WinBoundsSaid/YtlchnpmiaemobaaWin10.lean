/- Layer 13: the window as an object: New, In, Room, Add, Pieces. -/
import Derived.Test.YtlchnpmiaemobaaWin9
set_option linter.unusedSimpArgs false
set_option linter.unusedVariables false
namespace Go.Proofs.Ytlchnpmiaemobaa
open Go.RowKit
set_option maxRecDepth 100000

theorem winnew_any (n : Int) (h1 : 1 ≤ n) (h2 : n ≤ 1048576) (w : World) :
    Calls Try.prog 13 #[.int .i64 n] w fun e w' => e = .returned (.pointer (some ⟨w.heap.size, 0, none⟩)) ∧ WinO w' (fun k => k = w.heap.size) w.heap.size n [] ∧ Below w.heap.size w w' :=
  (wnew_any n h1 h2 w).mono fun e w' ⟨he, hw⟩ => by
    subst hw
    refine ⟨he, ⟨fun k hk => by subst hk; simp, none, 0, fun k hk => ?_, Blk.new w _ _, OwnR.nil _ _ _ _ _⟩, below_alloc w _⟩
    rcases hk with h | h
    · exact h
    · cases h
theorem winin_any {S : Nat → Prop} {g : Nat} {b : Int} {l : List PC} {w : World} (h : WinO w S g b l) : Calls Try.prog 22 #[.pointer (some ⟨g, 0, none⟩)] w fun e w' => e = .returned (.int .i64 (sumP l)) ∧ w' = w := by
  obtain ⟨A, c, -, hg, -⟩ := h.ex
  exact win_in g b _ _ w hg
theorem winroom_any {S : Nat → Prop} {g : Nat} {b : Int} {l : List PC} {w : World} (h : WinO w S g b l) : Calls Try.prog 24 #[.pointer (some ⟨g, 0, none⟩)] w fun e w' => e = .returned (.bool (decide (sumP l < b))) ∧ Below w.heap.size w w' := by
  obtain ⟨A, c, -, hg, -⟩ := h.ex
  exact win_room g b _ _ w hg

/-- may a piece be added? -/
def addB (b : Int) (l : List PC) (p : PC) : Bool := decide (1 ≤ p.n ∧ p.n ≤ 65536 ∧ sumP l < b)
def addL (b : Int) (l : List PC) (p : PC) : List PC := if addB b l p then l ++ [p] else l
theorem winadd_any (S : Nat → Prop) (g : Nat) (b : Int) (l : List PC) (p : PC) (w : World) (h : WinO w S g b l) (hb : b ≤ 1048576) (hok : okP l) (hl : l.length ≤ 1000000) :
    Calls Try.prog 16 #[.pointer (some ⟨g, 0, none⟩), .agg (encP p).toArray] w fun e w' => e = .returned (.bool (addB b l p)) ∧ ∃ S', WinO w' S' g b (addL b l p) ∧ Aft S S' w w' := by
  obtain ⟨A, c, hs, hg, hr⟩ := h.ex
  by_cases ha : 1 ≤ p.n ∧ p.n ≤ 65536 ∧ sumP l < b
  · have h1 : addB b l p = true := decide_eq_true ha
    have h2 : addL b l p = l ++ [p] := by unfold addL; rw [h1, if_pos rfl]
    rw [h1, h2]
    refine (win_add g 0 c b (sumP l) A p l w hg hr ha.1 ha.2.1 ha.2.2 hb (sumP_nonneg l hok).1 hl (Nat.zero_le _)).mono ?_
    rintro e w' ⟨he, A', c', k1, k2, k3, k4⟩
    have hf : Foot S w w' := ⟨k3.os, k3.tape, k3.output, k3.size, fun k hk hn => k3.block k hk (fun e => hn (hs k (.inl e))) (fun e => hn (hs k (.inr e)))⟩
    refine ⟨he, fun k => S k ∨ inBR g (.slice A' (l.length + 1) c') k, ⟨fun k hk => ?_, A', c', fun k hk => .inr (inBR_len hk), ?_, ?_⟩, hf, fun k hk => ?_⟩
    · rcases hk with hk | rfl | hk
      · exact Nat.lt_of_lt_of_le (h.low k hk) k3.size
      · exact k1.lt
      · exact (World.ownsRow.lt k2 k hk).2
    · rw [sumP_append, List.length_append]
      have : sumP [p] = p.n := by simp [sumP]
      rw [this]
      exact k1
    · rw [List.length_append]; exact k2
    · rcases hk with hk | rfl | hk
      · exact .inl hk
      · exact .inl (hs k (.inl rfl))
      · rcases k4 k hk with h5 | h5
        · exact .inl (hs k (.inr h5))
        · exact .inr h5
  · have h1 : addB b l p = false := decide_eq_false ha
    have h2 : addL b l p = l := by unfold addL; rw [h1]; rfl
    rw [h1, h2]
    refine (win_add_no g b (sumP l) _ p w hg (by omega)).mono ?_
    rintro e w' ⟨he, hb⟩
    exact ⟨he, S, h.foot (Foot.of_below (S := fun _ => False) hb) (fun _ _ e => e), Foot.of_below hb, fun k hk => .inl hk⟩
theorem addB_ok {b : Int} {l : List PC} {p : PC} (hok : okP l) : okP (addL b l p) := by
  unfold addL
  split
  · rename_i h
    have := of_decide_eq_true h
    intro q hq
    rcases List.mem_append.1 hq with hq | hq
    · exact hok q hq
    · rw [List.mem_singleton.1 hq]; exact ⟨this.1, this.2.1⟩
  · exact hok
theorem addL_len (b : Int) (l : List PC) (p : PC) : (addL b l p).length ≤ l.length + 1 := by
  unfold addL
  split
  · simp
  · omega
theorem addL_sum {b : Int} {l : List PC} {p : PC} (hb : b ≤ 1048576) (hs : sumP l ≤ 1114111) : sumP (addL b l p) ≤ 1114111 := by
  unfold addL
  split
  · rename_i h
    have := of_decide_eq_true h
    rw [sumP_append]
    have h2 : sumP [p] = p.n := by simp [sumP]
    omega
  · exact hs

theorem clone_any (A : Option Addr) (c : Nat) (l : List PC) (w : World) (hr : Rw w encP 8 A l) (hl : l.length ≤ 1000000) (hA : A = none → l = []) :
    Calls Try.prog 41 #[.slice A l.length c] w fun e w' => ∃ A' c', e = .returned (.slice A' l.length c') ∧ OwnR w' w.heap.size 31 encP 8 (.slice A' l.length c') l ∧ Below w.heap.size w w' := by
  have q22 : ∀ (w : World) (a : Option Addr) (n c n' c' : Nat), (binOp .eql 26 (.slice a n c) (.slice none n' c')).run Try.prog w = .ok (.bool a.isNone) w := fun w a n c n' c' => Lib.run_eql_slice_nil w _ _ a n c n' c' Try.underlying26
  cases A with
  | none =>
    have hl0 := hA rfl
    subst hl0
    clear hr hA hl
    go_enter Try.func41, Try.ntmps41
    go_wp2_with fail
    go_ret
    exact ⟨none, 0, rfl, OwnR.nil _ _ _ _ _, Below.refl _ _⟩
  | some a =>
    have hml : l.length ≤ maxLen := by unfold maxLen; omega
    have HR := Lib.hid (hr.below (below_alloc w (.cells #[] 31)) (Nat.le_refl _))
    clear hr hA
    have hown : OwnR (w.alloc (.cells #[] 31)) w.heap.size 31 encP 8 (.slice (some ⟨w.heap.size, 0, none⟩) 0 0) [] := World.ownsRow_made w #[] 0 (Nat.le_refl _) (Nat.zero_le _) (by simp)
    have HO := Lib.hid hown
    clear hown
    go_enter Try.func41, Try.ntmps41
    go_wp2_with (at_builtin; go_must (refine appR Try.eltP _ rfl (.tmp 5) (.tmp 6) rfl w.heap.size _ [] rfl HO.out (some a) c l rfl HR.out (by simpa using hml) (by simp; omega) (by simp) ?_); intro A2 c2 w2 hown2 hb2)
    go_ret
    simp only [List.length_nil, Nat.zero_add, List.nil_append] at hown2 ⊢
    exact ⟨A2, c2, rfl, hown2, (below_alloc w _).trans hb2⟩

theorem pieces_any {S : Nat → Prop} {g : Nat} {b : Int} {l : List PC} {w : World} (h : WinO w S g b l) (hl : l.length ≤ 1000000) :
    Calls Try.prog 17 #[.pointer (some ⟨g, 0, none⟩)] w fun e w' => ∃ A' c', e = .returned (.slice A' l.length c') ∧ OwnR w' w.heap.size 31 encP 8 (.slice A' l.length c') l ∧ Below w.heap.size w w' := by
  obtain ⟨A, c, -, hg, hr⟩ := h.ex
  obtain ⟨A', c', hv, -, hw⟩ := OwnR.row Try.eltP hr
  injection hv with e1 e2 e3
  subst e1
  subst e3
  clear e2
  have HC := Lib.hid (clone_any A c l w hw hl (fun e => by subst e; exact hw.none))
  have h2 := hg.cell 2
  have h2' : w.cell? ⟨g, 2, none⟩ = some (.slice A l.length c) := h2
  clear h hg hr hw h2
  go_enter Try.func17, Try.ntmps17
  go_wp2_with fail
  refine HC.out.mono ?_
  rintro e w1 ⟨A2, c2, rfl, k1, k2⟩
  have H := Lib.hid (And.intro k1 k2)
  clear k1 k2
  go_wp2_with fail
  go_ret
  exact ⟨A2, c2, rfl, H.out.1, H.out.2⟩

end Go.Proofs.Ytlchnpmiaemobaa
