/- Joined: Bk35. -/
import Derived.Test.YtmcdollkmlcpbaaGreatDoorQ45
import Derived.Test.YtmcdollkmlcpbaaGreatDoorQ37
import Derived.Test.YtmcdollkmlcpbaaGreatDoorQ15
import Derived.RangeFuncWrites
set_option linter.unusedSimpArgs false
set_option linter.unusedVariables false
set_option linter.unusedSimpArgs false
set_option linter.unusedVariables false
namespace Go.Proofs.YtmcdollkmlcpbaaGreatDoor
open Go.RowKit Go.Maps
set_option maxRecDepth 100000
attribute [local go_sem] Oper.semAt_some
def ApU (w : World) (pre : List Nat) (W : World) : Prop := Below w.heap.size w W ∧ w.heap.size < W.heap.size ∧ ∃ v, Blk W w.heap.size 55 #[v] ∧ OwnR W (w.heap.size + 1) 34 encU 1 v pre
theorem apU_from (w : World) : OwnFrom (w.heap.size + 1) (ApU w) := fun pre W W' row h hg hr => by
 obtain ⟨tB, hz, v, b, ho⟩ := h
 refine ⟨tB.grown hg (by omega) (fun k e => by have := (hr k e).1; omega), Nat.lt_of_lt_of_le hz hg.size, v, b.kept hg (fun e => by have := (hr _ e).1; omega), World.ownsRow.kept ho hg ?_⟩
 cases row with
 | none => cases hv : v.ownBlock with
  | none => exact .inl rfl
  | some k => exact .inr (by simp)
 | some r =>
  refine .inr fun e => ?_
  obtain ⟨-, o, h1, h2⟩ := hr r rfl
  obtain ⟨-, cs, h3⟩ := ho.home e
  have := h1.symm.trans h3
  injection this with this
  subst this
  cases h2
set_option maxHeartbeats 4000000 in
theorem appSeqU_in (n : Nat) (hn : 2 ≤ n) {α : Type} {vE : α → Value} (Bm b : Nat) (M : List (Nat × α)) (hM : M.length ≤ 1000) (w : World) (hB : Bm < w.heap.size)
  (hm : w.cell? ⟨Bm, 0, none⟩ = some (.map (some b))) (hMu : Mu vE w b M) :
  CallsIn Fence.wide n Tryz.prog 64 #[.slice none 0 0, .func (.func 51) #[] #[.pointer (some ⟨Bm, 0, none⟩)]] w fun e w' => ∃ (v : Value) (xs : List Nat), e = .returned v ∧ OwnR w' (w.heap.size + 1) 34 encU 1 v xs ∧ xs.Perm (M.map Prod.fst) ∧ Below w.heap.size w w' := by
 have HS := Lib.hid (keysU_seq (n - 1) (by omega) Bm b M.length M (Nat.le_refl _) w hB hm hMu)
 have HM := Lib.hid hM
 clear hm hMu hB hM
 refine callsIn_of_wp_marks Tryz.func64 rfl trivial ?_ rfl
 simp only [Tryz.ntmps64, List.size_toArray, List.length_cons, List.length_nil, Nat.reduceAdd, Nat.reduceSub, Array.replicate_succ, Array.replicate_zero, List.push_toArray, List.append_toArray, List.nil_append, List.cons_append]
 gi_wp2
 have b0 := Blk.new w 55 #[.slice none 0 0]
 have t0 := below_alloc w (.cells #[.slice none 0 0] 55)
 refine wpIn_rangeFunc_ownG (hro := rfl) (h1 := by omega) (gf := 51) (lb := #[.pointer (some ⟨Bm, 0, none⟩)]) rfl trivial (enters_of Tryz.func51 (by kernel_rfl) rfl) HS.out
  (fun h k => h.trans k) (fun W l o o' _ ho hc hw => KeepsWalks.putObj _ ho hw) t0 (fun _ => rfl)
  (ApU w) (fun _ _ _ => False) (by rw [World.size_alloc]; exact apU_from w) (fun c s A C row h => h.elim) ⟨t0, by rw [World.size_alloc]; omega, _, b0, OwnR.nil _ _ _ _ _⟩
  (fun x => { tmps := #[.slice none 0 0, .func (.func 51) #[] #[.pointer (some ⟨Bm, 0, none⟩)], .pointer (some ⟨w.heap.size, 0, none⟩), undef, .slice none 0 0, kuV x, .func (.func 51) #[] #[.pointer (some ⟨Bm, 0, none⟩)], kuV x, undef, undef, undef, undef, undef], defers := [] }) ?assign ?body ?done ?stop
 case assign =>
  intro l x W K hK
  gi_wp2
  exact hK
 case body =>
  rintro l pre x W ⟨tB, hz, v, b2, hrow⟩ hlt
  have C := cells_say b2 _ 0 rfl
  simp only [cellsSay, List.drop_zero, Nat.reduceAdd, and_true] at C
  have hne : v.ownBlock ≠ some w.heap.size := fun e => by have := (World.ownsRow.lt hrow _ e).1; omega
  have hcl : ∀ (j : Nat) (o : Obj), v.ownBlock = some j → (W.alloc (.cells #[kuV x] 34)).heap[j]? = some o → o.isCells = true := fun j o e ho => by
   obtain ⟨-, cs, h3⟩ := (hrow.alloc (.cells #[kuV x] 34)).home e
   have := ho.symm.trans h3
   injection this with this
   subst this
   rfl
  have H1 := Lib.hid (And.intro tB (And.intro hrow (And.intro hne (And.intro hcl b2))))
  have hl := HM.out
  have HL : Hid (pre.length ≤ 1000) := Lib.hid (by omega)
  clear hne hcl b2 hrow hl
  gi_wp2_with (gi_at_builtin; refine appR1In Tryz.eltU _ rfl (.tmp 8) (.tmp 10) rfl (w.heap.size + 1) v pre rfl (H1.out.2.1.alloc _) W.heap.size 1 x 34 _ rfl (Blk.new W _ _) rfl (by have := HL.out; unfold maxLen; omega) (by have := HL.out; omega) (by rw [World.size_alloc]; omega) ?_; intro g2 c2 w2 hown2 hgr2 hb2; have hb9 := (H1.out.2.2.2.2.alloc (.cells #[kuV x] 34)).kept hgr2 H1.out.2.2.1; have C2 := cells_say hb9 _ 0 rfl; simp only [cellsSay, List.drop_zero, Nat.reduceAdd, and_true] at C2; have H2 := Lib.hid (And.intro hown2 (And.intro hgr2 hb9)); clear hown2 hgr2 hb9)
  have hkc := KeepsOthers.of_grownBy H2.out.2.1 H1.out.2.2.2.1
  have hko := (KeepsOthers.alloc W (.cells #[kuV x] 34)).trans (hkc.trans (KeepsOthers.setCell w2 ⟨w.heap.size, 0, none⟩ (.slice (some ⟨g2, 0, none⟩) (pre.length + 1) c2)))
  have hz2 : w.heap.size ≤ w2.heap.size := Nat.le_trans (by rw [World.size_alloc]; omega) H2.out.2.1.size
  refine ⟨hko.from _, hko.walks, ?_, ?_, _, H2.out.2.2.sets [(0, .slice (some ⟨g2, 0, none⟩) (pre.length + 1) c2)], H2.out.1.far (fun e => ?_) _⟩
  ·refine ((tB.trans ((below_alloc W (.cells #[kuV x] 34)).mono (Nat.le_of_lt hz))).grown H2.out.2.1 (by rw [World.size_alloc]; omega) (fun k e => ?_)).grown (grown_set w2 w.heap.size 0 _) hz2 (fun k e => by injection e with e; omega)
   have := (World.ownsRow.lt H1.out.2.1 k e).1
   omega
  ·have := (grown_set w2 w.heap.size 0 (.slice (some ⟨g2, 0, none⟩) (pre.length + 1) c2)).size
   have := (H2.out.2.2).lt
   omega
  ·have e2 : g2 = w.heap.size := by injection e with e
   omega
 case done =>
  rintro D xs W hD hS ⟨tB, hz, v, b2, hrow⟩ hdef
  have C := cells_say b2 _ 0 rfl
  simp only [cellsSay, List.drop_zero, Nat.reduceAdd, and_true] at C
  have HF := Lib.hid (And.intro hrow (And.intro hS tB))
  clear b2 hrow hS tB
  gi_wp2
  refine ⟨by simp, .inl ⟨_, _, rfl, run_takeDeferred hdef, ?_⟩⟩
  refine ⟨v, by simp [results, Tryz.results64, go_sem], v, xs, rfl, ownsRow_putObj HF.out.1 _ hdef rfl, HF.out.2.1, HF.out.2.2.grown (grownBy_putObj' W D _) (Nat.le_of_lt hz) (fun k e => by injection e with e; rw [World.size_alloc] at hD; omega)⟩
 case stop => intro D c pre W _ _ h; exact h.elim
set_option maxHeartbeats 1000000 in
theorem collectU_in (n : Nat) (hn : 3 ≤ n) {α : Type} {vE : α → Value} (Bm b : Nat) (M : List (Nat × α)) (hM : M.length ≤ 1000) (w : World) (hB : Bm < w.heap.size)
  (hm : w.cell? ⟨Bm, 0, none⟩ = some (.map (some b))) (hMu : Mu vE w b M) :
  CallsIn Fence.wide n Tryz.prog 49 #[.func (.func 51) #[] #[.pointer (some ⟨Bm, 0, none⟩)]] w fun e w' => ∃ (v : Value) (xs : List Nat), e = .returned v ∧ OwnR w' (w.heap.size + 1) 34 encU 1 v xs ∧ xs.Perm (M.map Prod.fst) ∧ Below w.heap.size w w' := by
 have HA := Lib.hid (appSeqU_in (n - 1) (by omega) Bm b M hM w hB hm hMu)
 clear hM hm hMu
 refine callsIn_of_wp Tryz.func49 rfl trivial ?_ rfl
 simp only [Tryz.ntmps49, List.size_toArray, List.length_cons, List.length_nil, Nat.reduceAdd, Nat.reduceSub, Array.replicate_succ, Array.replicate_zero, List.push_toArray, List.append_toArray, List.nil_append, List.cons_append]
 gi_wp2_with (refine ⟨trivial, fun _ => (by omega), ?_⟩; gi_at_call 64; refine HA.out.mono ?_; rintro e w1 ⟨v, xs, rfl, h1, h2, h3⟩)
 go_ret
 exact ⟨v, xs, rfl, h1, h2, h3⟩
set_option maxHeartbeats 1000000 in
theorem keysU_any (b : Nat) (w : World) : Calls Tryz.prog 32 #[.map (some b)] w fun e w' => e = .returned (.func (.func 51) #[] #[.pointer (some ⟨w.heap.size, 0, none⟩)]) ∧ w' = w.alloc (.cells #[.map (some b)] BMT) := by
 go_enter Tryz.func32, Tryz.ntmps32
 go_wp2
 go_ret
 exact ⟨rfl, rfl⟩
end Go.Proofs.YtmcdollkmlcpbaaGreatDoor
