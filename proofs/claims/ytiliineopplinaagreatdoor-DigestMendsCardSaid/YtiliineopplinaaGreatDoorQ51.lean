/- Joined: Bk36, DgKeys. -/
import Derived.Test.YtiliineopplinaaGreatDoorQ49
import Derived.Test.YtiliineopplinaaGreatDoorQ42
import Derived.Test.YtiliineopplinaaGreatDoorQ31
set_option linter.unusedSimpArgs false
set_option linter.unusedVariables false
set_option linter.unusedSimpArgs false
set_option linter.unusedVariables false
namespace Go.Proofs.YtiliineopplinaaGreatDoor
open Go.RowKit Go.Maps
set_option maxRecDepth 100000
def SrtO (w : World) (ks : List Nat) (e : Ending) (w' : World) : Prop := ∃ U c xs, e = .returned (.slice U xs.length c) ∧ xs.Perm ks ∧ xs.Pairwise (· ≤ ·) ∧ OwnR w' 0 35 encU 1 (.slice U xs.length c) xs ∧ Below w.heap.size w w'
set_option maxHeartbeats 4000000 in
theorem sortedU_any {α : Type} {vE : α → Value} (Bm b : Nat) (M : List (Nat × α)) (hM : M.length ≤ 1000) (w : World) (hB : Bm < w.heap.size)
  (hm : w.cell? ⟨Bm, 0, none⟩ = some (.map (some b))) (hMu : Mu vE w b M) :
  Calls Tryz.prog 26 #[.func (.func 52) #[] #[.pointer (some ⟨Bm, 0, none⟩)]] w (SrtO w (M.map Prod.fst)) := by
 have hcol := (callsIn_wide (n := 5)).1 (collectU_in 5 (by omega) Bm b M hM w hB hm hMu)
 have HC := Lib.hid hcol
 have HM := Lib.hid hM
 clear hm hMu hM hcol
 go_enter Tryz.func26, Tryz.ntmps26
 go_upto_region 2 with (go_at_call 43; refine HC.out.mono ?_; rintro e w1 ⟨v, xs, rfl, h1, h2, h3⟩)
 rcases row_cases (h1.mono (Nat.zero_le _)) with ⟨rfl, hx⟩ | ⟨g, n, c, rfl, hln⟩
 ·have HF := Lib.hid (And.intro hx (And.intro h2 (And.intro h3 h1)))
  have HS := Lib.hid (sort_nil w1)
  clear hx h2 h3 h1 HC
  go_wp2_with (go_at_call 44; refine HS.out.mono ?_; rintro e w2 ⟨rfl, hw2⟩)
  go_ret
  have hxs := HF.out.1
  exact ⟨none, 0, xs, by rw [hxs]; rfl, HF.out.2.1, by rw [hxs]; exact .nil, by rw [hxs]; exact OwnR.nil _ _ _ _ _, HF.out.2.2.1⟩
 ·have hS0 : Sep w.heap.size w w1 (thS g n c xs.toArray :: []) := (Sep.nil (Below.refl w.heap.size w) (Nat.le_refl _)).cons (t := thS g n c xs.toArray) h3 (h1.mono (Nat.zero_le _)) (fun k hk => by
   have := (World.ownsRow.lt h1 k hk).1
   omega)
  have hll : xs.length ≤ 1000 := by rw [h2.length_eq, List.length_map]; exact HM.out
  have HS := Lib.hid (sort_u32 hS0 (by omega))
  have HF := Lib.hid (And.intro h2 hln)
  clear h1 h2 h3 hln hS0 hll HC
  go_wp2_with (go_at_call 44; refine HS.out.mono ?_; rintro e w2 ⟨rfl, d', hS2, hso⟩)
  go_ret
  have hp : d'.toList.Perm xs := hso.1
  have hl2 : n = d'.toList.length := by rw [hp.length_eq]; exact HF.out.2
  subst hl2
  exact ⟨some ⟨g, 0, none⟩, c, d'.toList, rfl, hp.trans HF.out.1, hso.2, hS2.at_ (t := thS g d'.toList.length c d') 0 rfl, hS2.b⟩
set_option maxHeartbeats 2000000 in
theorem bSeries_any {w : World} {X : Bl} (h : RdK w X) (ok : OkB X) : Calls Tryz.prog 15 #[prB X] w (SrtO w (X.D.M.map Prod.fst)) := by
 have hlen : X.M.length ≤ 1000 := by
  have h1 := ok.D.few
  have h2 := ok.D.mo2
  have h3 : X.D.M.length = X.M.length := by unfold Bl.D; simp
  omega
 have hks : X.D.M.map Prod.fst = X.M.map Prod.fst := by unfold Bl.D; simp [Function.comp_def]
 rw [hks]
 have C : w.cell? ⟨X.q, 2, none⟩ = some (.map (some X.b)) := h.blk.cell 2
 have b1 := below_alloc w (.cells #[.map (some X.b)] BMT)
 have HK := Lib.hid (keysU_any X.b w)
 have HS := Lib.hid (sortedU_any w.heap.size X.b X.M hlen (w.alloc (.cells #[.map (some X.b)] BMT)) (by rw [World.size_alloc]; omega) ((Blk.new w BMT #[.map (some X.b)]).cell 0) ((thMu prS X.b X.M).below h.mu b1))
 have Hb := Lib.hid b1
 clear hlen hks h ok b1
 go_enter Tryz.func15, Tryz.ntmps15
 go_wp2_with (first | (go_at_call 32; refine HK.out.mono ?_; rintro e w2 ⟨rfl, rfl⟩) | (go_at_call 26; refine HS.out.mono ?_; rintro e w3 ⟨U, c, xs, rfl, h2, h3, h4, h5⟩))
 go_ret
 exact ⟨U, c, xs, rfl, h2, h3, h4, Hb.out.trans (h5.mono (by rw [World.size_alloc]; omega))⟩
end Go.Proofs.YtiliineopplinaaGreatDoor
set_option linter.unusedSimpArgs false
set_option linter.unusedVariables false
namespace Go.Proofs.YtiliineopplinaaGreatDoor
open Go.RowKit Go.Maps Go.MapKept
set_option maxRecDepth 100000
attribute [local go_sem] Oper.semAt_some
abbrev FMT : TypeId := 89
theorem fmU : Tryz.prog.underlying FMT = some (.map KU 57) := Tryz.underlying89
set_option maxHeartbeats 4000000 in
theorem keysU_inL {α : Type} {vE : α → Value} (n : Nat) (hn : 1 ≤ n) (l0 Bm b N : Nat) (M : List (Nat × α)) (hN : M.length ≤ N) (J Jx : List Nat → World → Prop) (W : World) (hJ : AbidesFrom W.heap.size J)
  (hY : ∀ pre x W1, J pre W1 → pre.length < N → YieldAt Fence.wide (n - 1) Tryz.prog l0 #[kuV x] W1 fun e W' => (e = .returned (.bool true) ∧ J (pre ++ [x]) W' ∧ KeepsWalks W1 W') ∨ (e = .returned (.bool false) ∧ Jx (pre ++ [x]) W'))
  (hm : W.cell? ⟨Bm, 0, none⟩ = some (.map (some b))) (hMu : Mu vE W b M) (h0 : J [] W) :
  CallsIn Fence.wide n Tryz.prog 45 #[.func (.yield l0) #[] #[], .pointer (some ⟨Bm, 0, none⟩)] W fun e W' => (∃ v, e = .returned v) ∧ ((∃ xs : List Nat, xs.Perm (M.map Prod.fst) ∧ J xs W') ∨ (∃ pre, True ∧ Jx pre W')) := by
 have HJ := Lib.hid hJ
 have HY := Lib.hid hY
 have HND := Lib.hid hMu.nodup
 clear hJ hY
 refine callsIn_of_wp Tryz.func45 rfl trivial ?_ rfl
 simp only [Tryz.ntmps45, List.size_toArray, List.length_cons, List.length_nil, Nat.reduceAdd, Nat.reduceSub, Array.replicate_succ, Array.replicate_zero, List.push_toArray, List.append_toArray, List.nil_append, List.cons_append]
 gi_wp2_with (gi_at_range; refine step_rangeUIn rfl _ rfl fmU rfl hMu ?_; intro w1 hru hg1 hs1)
 go_frame
 have HS := Lib.hid (And.intro hru (HJ.out _ _ _ none h0 hg1 (fun r e => by cases e)))
 clear hru hg1 hs1
 gi_loopw [3] (fun _ wr => ∃ (lf : Nat → Bool) (xs : List Nat), Hid (Ru vE wr b W.heap.size M lf ∧ Came M lf xs ∧ J xs wr ∧ xs.length + (M.filter fun p => lf p.1).length ≤ M.length))
  (fun _ wr => wr.rangeLeft b W.heap.size)
 case atStart => exact ⟨_, [], Lib.hid ⟨HS.out.1, Came.start, HS.out.2, by rw [List.length_nil, Nat.zero_add]; exact List.length_filter_le _ _⟩⟩
 case round =>
  obtain ⟨lf, xs, HR⟩ := hrel
  have hru := HR.out.1
  gi_wp2_with (gi_at_next; refine step_nextUIn rfl _ rfl rfl hru ?_ ?_)
  ·intro hl0
   have HD := Lib.hid (HR.out.2.1.all (fun p hp => hl0 p.1 p.2 hp) HND.out)
   clear hl0
   gi_wp2
   go_end0
   exact ⟨⟨_, rfl⟩, .inl ⟨xs, HD.out, HR.out.2.2.1⟩⟩
  ·intro k c w2 hkm hlk hr2 hg2 hs2 hen
   have hwk : ∃ o : Obj, wr.heap[W.heap.size]? = some o ∧ o.isWalk = true := by
    obtain ⟨es, clock, since, seen, c0, q1, q2, q3, q4, q5, q6⟩ := hru
    exact ⟨_, q5, rfl⟩
   have hJ2 : J xs w2 := HJ.out xs wr w2 (some W.heap.size) HR.out.2.2.1 hg2 (fun r e => by injection e with e; subst e; exact ⟨Nat.le_refl _, hwk⟩)
   have hless := left_less hkm hlk
   have hm1 : wr.rangeLeft b W.heap.size = (M.filter fun p => lf p.1).length := hru.left
   have HC := Lib.hid (And.intro (HR.out.2.1.step hkm hlk) (And.intro hr2 (And.intro hless (And.intro hm1 HR.out.2.2.2))))
   obtain ⟨fn, tmps, assign, body, hy, hRr⟩ := HY.out xs k w2 hJ2 (by have := HR.out.2.2.2; omega)
   have HRr := Lib.hid hRr
   clear hs2 hru HR hkm hlk hr2 hg2 hwk hJ2 hless hm1 hRr
   gi_wp2
   refine HRr.out.mono ?_
   rintro e W3 (⟨rfl, hJ3, hk3⟩ | ⟨rfl, hJx⟩)
   ·have HC3 := Lib.hid (And.intro (HC.out.2.1.walks hk3) hJ3)
    clear hJ3 hk3 HRr
    gi_wp2
    go_roundw
    case rel => exact ⟨_, xs ++ [k], Lib.hid ⟨HC3.out.1, HC.out.1, HC3.out.2, by
     have h1 := HC.out.2.2.1
     have h2 := HC.out.2.2.2.2
     rw [List.length_append, List.length_singleton]
     omega⟩⟩
    case measure =>
     show World.rangeLeft W3 b W.heap.size < World.rangeLeft wr b W.heap.size
     rw [HC3.out.1.left, HC.out.2.2.2.1]
     exact HC.out.2.2.1
   ·gi_wp2
    refine bodyPost_ret (results_none rfl _ _ _) rfl ?_
    exact ⟨⟨_, rfl⟩, .inr ⟨_, trivial, hJx⟩⟩
theorem keysU_seqL {α : Type} {vE : α → Value} (n : Nat) (hn : 1 ≤ n) (Bm b N : Nat) (M : List (Nat × α)) (hN : M.length ≤ N) (w : World) (hB : Bm < w.heap.size)
  (hm : w.cell? ⟨Bm, 0, none⟩ = some (.map (some b))) (hMu : Mu vE w b M) :
  SeqStopsK Fence.wide n Tryz.prog 45 #[.pointer (some ⟨Bm, 0, none⟩)] (fun x : Nat => #[kuV x]) KeepsWalks (fun xs => xs.Perm (M.map Prod.fst)) (fun _ => True) N w := by
 intro l J Jx W hW hJ _ hY h0
 exact keysU_inL n hn l Bm b N M hN J Jx W hJ hY ((hW.cell hB).trans hm) ((thMu vE b M).below hMu hW) h0
set_option maxHeartbeats 4000000 in
theorem appSeqU_inL (n : Nat) (hn : 2 ≤ n) {α : Type} {vE : α → Value} (Bm b : Nat) (M : List (Nat × α)) (hM : M.length ≤ 10000) (w : World) (hB : Bm < w.heap.size)
  (hm : w.cell? ⟨Bm, 0, none⟩ = some (.map (some b))) (hMu : Mu vE w b M) :
  CallsIn Fence.wide n Tryz.prog 61 #[.slice none 0 0, .func (.func 45) #[] #[.pointer (some ⟨Bm, 0, none⟩)]] w fun e w' => ∃ (v : Value) (xs : List Nat), e = .returned v ∧ OwnR w' (w.heap.size + 1) 35 encU 1 v xs ∧ xs.Perm (M.map Prod.fst) ∧ Below w.heap.size w w' := by
 have HS := Lib.hid (keysU_seqL (n - 1) (by omega) Bm b M.length M (Nat.le_refl _) w hB hm hMu)
 have HM := Lib.hid hM
 clear hm hMu hB hM
 refine callsIn_of_wp_marks Tryz.func61 rfl trivial ?_ rfl
 simp only [Tryz.ntmps61, List.size_toArray, List.length_cons, List.length_nil, Nat.reduceAdd, Nat.reduceSub, Array.replicate_succ, Array.replicate_zero, List.push_toArray, List.append_toArray, List.nil_append, List.cons_append]
 gi_wp2
 have b0 := Blk.new w 62 #[.slice none 0 0]
 have t0 := below_alloc w (.cells #[.slice none 0 0] 62)
 refine wpIn_rangeFunc_ownG (hro := rfl) (h1 := by omega) (gf := 45) (lb := #[.pointer (some ⟨Bm, 0, none⟩)]) rfl trivial (enters_of Tryz.func45 (by kernel_rfl) rfl) HS.out
  (fun h k => h.trans k) (fun W l o o' _ ho hc hw => KeepsWalks.putObj _ ho hw) t0 (fun _ => rfl)
  (ApU w) (fun _ _ _ => False) (by rw [World.size_alloc]; exact apU_from w) (fun c s A C row h => h.elim) ⟨t0, by rw [World.size_alloc]; omega, _, b0, OwnR.nil _ _ _ _ _⟩
  (fun x => { tmps := #[.slice none 0 0, .func (.func 45) #[] #[.pointer (some ⟨Bm, 0, none⟩)], .pointer (some ⟨w.heap.size, 0, none⟩), undef, .slice none 0 0, kuV x, .func (.func 45) #[] #[.pointer (some ⟨Bm, 0, none⟩)], kuV x, undef, undef, undef, undef, undef], defers := [] }) ?assign ?body ?done ?stop
 case assign =>
  intro l x W K hK
  gi_wp2
  exact hK
 case body =>
  rintro l pre x W ⟨tB, hz, v, b2, hrow⟩ hlt
  have C := cells_say b2 _ 0 rfl
  simp only [cellsSay, List.drop_zero, Nat.reduceAdd, and_true] at C
  have hne : v.ownBlock ≠ some w.heap.size := fun e => by have := (World.ownsRow.lt hrow _ e).1; omega
  have hcl : ∀ (j : Nat) (o : Obj), v.ownBlock = some j → (W.alloc (.cells #[kuV x] 35)).heap[j]? = some o → o.isCells = true := fun j o e ho => by
   obtain ⟨-, cs, h3⟩ := (hrow.alloc (.cells #[kuV x] 35)).home e
   have := ho.symm.trans h3
   injection this with this
   subst this
   rfl
  have H1 := Lib.hid (And.intro tB (And.intro hrow (And.intro hne (And.intro hcl b2))))
  have hl := HM.out
  have HL : Hid (pre.length ≤ 10000) := Lib.hid (by omega)
  clear hne hcl b2 hrow hl
  gi_wp2_with (gi_at_builtin; refine appR1In Tryz.eltU _ rfl (.tmp 8) (.tmp 10) rfl (w.heap.size + 1) v pre rfl (H1.out.2.1.alloc _) W.heap.size 1 x 35 _ rfl (Blk.new W _ _) rfl (by have := HL.out; unfold maxLen; omega) (by have := HL.out; omega) (by rw [World.size_alloc]; omega) ?_; intro g2 c2 w2 hown2 hgr2 hb2; have hb9 := (H1.out.2.2.2.2.alloc (.cells #[kuV x] 35)).kept hgr2 H1.out.2.2.1; have C2 := cells_say hb9 _ 0 rfl; simp only [cellsSay, List.drop_zero, Nat.reduceAdd, and_true] at C2; have H2 := Lib.hid (And.intro hown2 (And.intro hgr2 hb9)); clear hown2 hgr2 hb9)
  have hkc := KeepsOthers.of_grownBy H2.out.2.1 H1.out.2.2.2.1
  have hko := (KeepsOthers.alloc W (.cells #[kuV x] 35)).trans (hkc.trans (KeepsOthers.setCell w2 ⟨w.heap.size, 0, none⟩ (.slice (some ⟨g2, 0, none⟩) (pre.length + 1) c2)))
  have hz2 : w.heap.size ≤ w2.heap.size := Nat.le_trans (by rw [World.size_alloc]; omega) H2.out.2.1.size
  refine ⟨hko.from _, hko.walks, ?_, ?_, _, H2.out.2.2.sets [(0, .slice (some ⟨g2, 0, none⟩) (pre.length + 1) c2)], H2.out.1.far (fun e => ?_) _⟩
  ·refine ((tB.trans ((below_alloc W (.cells #[kuV x] 35)).mono (Nat.le_of_lt hz))).grown H2.out.2.1 (by rw [World.size_alloc]; omega) (fun k e => ?_)).grown (grown_set w2 w.heap.size 0 _) hz2 (fun k e => by injection e with e; omega)
   have := (World.ownsRow.lt H1.out.2.1 k e).1
   omega
  ·have := (grown_set w2 w.heap.size 0 (.slice (some ⟨g2, 0, none⟩) (pre.length + 1) c2)).size
   have := (H2.out.2.2).lt
   omega
  ·have e2 : g2 = w.heap.size := by injection e with e
   omega
 case done =>
  rintro D xs W hD hS ⟨tB, hz, v, b2, hrow⟩ hdef
  have C := cells_say b2 _ 0 rfl
  simp only [cellsSay, List.drop_zero, Nat.reduceAdd, and_true] at C
  have HF := Lib.hid (And.intro hrow (And.intro hS tB))
  clear b2 hrow hS tB
  gi_wp2
  refine ⟨by simp, .inl ⟨_, _, rfl, run_takeDeferred hdef, ?_⟩⟩
  refine ⟨v, by simp [results, Tryz.results61, go_sem], v, xs, rfl, ownsRow_putObj HF.out.1 _ hdef rfl, HF.out.2.1, HF.out.2.2.grown (grownBy_putObj' W D _) (Nat.le_of_lt hz) (fun k e => by injection e with e; rw [World.size_alloc] at hD; omega)⟩
 case stop => intro D c pre W _ _ h; exact h.elim
set_option maxHeartbeats 1000000 in
theorem collectU_inL (n : Nat) (hn : 3 ≤ n) {α : Type} {vE : α → Value} (Bm b : Nat) (M : List (Nat × α)) (hM : M.length ≤ 10000) (w : World) (hB : Bm < w.heap.size)
  (hm : w.cell? ⟨Bm, 0, none⟩ = some (.map (some b))) (hMu : Mu vE w b M) :
  CallsIn Fence.wide n Tryz.prog 43 #[.func (.func 45) #[] #[.pointer (some ⟨Bm, 0, none⟩)]] w fun e w' => ∃ (v : Value) (xs : List Nat), e = .returned v ∧ OwnR w' (w.heap.size + 1) 35 encU 1 v xs ∧ xs.Perm (M.map Prod.fst) ∧ Below w.heap.size w w' := by
 have HA := Lib.hid (appSeqU_inL (n - 1) (by omega) Bm b M hM w hB hm hMu)
 clear hM hm hMu
 refine callsIn_of_wp Tryz.func43 rfl trivial ?_ rfl
 simp only [Tryz.ntmps43, List.size_toArray, List.length_cons, List.length_nil, Nat.reduceAdd, Nat.reduceSub, Array.replicate_succ, Array.replicate_zero, List.push_toArray, List.append_toArray, List.nil_append, List.cons_append]
 gi_wp2_with (refine ⟨trivial, fun _ => (by omega), ?_⟩; gi_at_call 61; refine HA.out.mono ?_; rintro e w1 ⟨v, xs, rfl, h1, h2, h3⟩)
 go_ret
 exact ⟨v, xs, rfl, h1, h2, h3⟩
set_option maxHeartbeats 1000000 in
theorem keysU_anyL (b : Nat) (w : World) : Calls Tryz.prog 27 #[.map (some b)] w fun e w' => e = .returned (.func (.func 45) #[] #[.pointer (some ⟨w.heap.size, 0, none⟩)]) ∧ w' = w.alloc (.cells #[.map (some b)] FMT) := by
 go_enter Tryz.func27, Tryz.ntmps27
 go_wp2
 go_ret
 exact ⟨rfl, rfl⟩
set_option maxHeartbeats 4000000 in
theorem sortedU_anyL {α : Type} {vE : α → Value} (Bm b : Nat) (M : List (Nat × α)) (hM : M.length ≤ 10000) (w : World) (hB : Bm < w.heap.size)
  (hm : w.cell? ⟨Bm, 0, none⟩ = some (.map (some b))) (hMu : Mu vE w b M) :
  Calls Tryz.prog 26 #[.func (.func 45) #[] #[.pointer (some ⟨Bm, 0, none⟩)]] w (SrtO w (M.map Prod.fst)) := by
 have hcol := (callsIn_wide (n := 5)).1 (collectU_inL 5 (by omega) Bm b M hM w hB hm hMu)
 have HC := Lib.hid hcol
 have HM := Lib.hid hM
 clear hm hMu hM hcol
 go_enter Tryz.func26, Tryz.ntmps26
 go_upto_region 2 with (go_at_call 43; refine HC.out.mono ?_; rintro e w1 ⟨v, xs, rfl, h1, h2, h3⟩)
 rcases row_cases (h1.mono (Nat.zero_le _)) with ⟨rfl, hx⟩ | ⟨g, n, c, rfl, hln⟩
 ·have HF := Lib.hid (And.intro hx (And.intro h2 (And.intro h3 h1)))
  have HS := Lib.hid (sort_nil w1)
  clear hx h2 h3 h1 HC
  go_wp2_with (go_at_call 44; refine HS.out.mono ?_; rintro e w2 ⟨rfl, hw2⟩)
  go_ret
  have hxs := HF.out.1
  exact ⟨none, 0, xs, by rw [hxs]; rfl, HF.out.2.1, by rw [hxs]; exact .nil, by rw [hxs]; exact OwnR.nil _ _ _ _ _, HF.out.2.2.1⟩
 ·have hS0 : Sep w.heap.size w w1 (thS g n c xs.toArray :: []) := (Sep.nil (Below.refl w.heap.size w) (Nat.le_refl _)).cons (t := thS g n c xs.toArray) h3 (h1.mono (Nat.zero_le _)) (fun k hk => by
   have := (World.ownsRow.lt h1 k hk).1
   omega)
  have hll : xs.length ≤ 10000 := by rw [h2.length_eq, List.length_map]; exact HM.out
  have HS := Lib.hid (sort_u32 hS0 (by omega))
  have HF := Lib.hid (And.intro h2 hln)
  clear h1 h2 h3 hln hS0 hll HC
  go_wp2_with (go_at_call 44; refine HS.out.mono ?_; rintro e w2 ⟨rfl, d', hS2, hso⟩)
  go_ret
  have hp : d'.toList.Perm xs := hso.1
  have hl2 : n = d'.toList.length := by rw [hp.length_eq]; exact HF.out.2
  subst hl2
  exact ⟨some ⟨g, 0, none⟩, c, d'.toList, rfl, hp.trans HF.out.1, hso.2, hS2.at_ (t := thS g d'.toList.length c d') 0 rfl, hS2.b⟩
end Go.Proofs.YtiliineopplinaaGreatDoor
