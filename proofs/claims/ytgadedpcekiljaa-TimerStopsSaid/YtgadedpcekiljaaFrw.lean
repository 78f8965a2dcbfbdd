/-
  A region that draws its order, whose operations read and compute, make memory (calls, new blocks), and store into blocks that the region itself has made. One walk in the order of the text serves every order: each maker leaves a snapshot of the blocks that it made, which stands till the region ends, but for the stores into it.
-/
import Derived.Test.YtgadedpcekiljaaFrs
namespace Go.Proofs.Ytgadedpcekiljaa
open Go.RowKit

/-- blocks from lo up to hi, as they stand in z -/
structure Snap where
  z : World
  lo : Nat
  hi : Nat

def Agr (s : Snap) (W : World) : Prop := s.hi ≤ W.heap.size ∧ ∀ b, s.lo ≤ b → b < s.hi → W.heap[b]? = s.z.heap[b]?
def updS (E : Nat → Snap) (k : Nat) (s : Snap) : Nat → Snap := fun j => if j = k then s else E j
theorem updS_same (E : Nat → Snap) (k : Nat) (s : Snap) : updS E k s k = s := if_pos rfl
theorem updS_ne {E : Nat → Snap} {k j : Nat} {s : Snap} (h : j ≠ k) : updS E k s j = E j := if_neg h
theorem updS_comm (E : Nat → Snap) {i j : Nat} (x y : Snap) (h : i ≠ j) : updS (updS E i x) j y = updS (updS E j y) i x := by
  funext k
  unfold updS
  by_cases h1 : k = j
  · subst h1
    rw [if_pos rfl, if_neg (fun e => h e.symm), if_pos rfl]
  · rw [if_neg h1]
    by_cases h2 : k = i
    · rw [if_pos h2, if_pos h2]
    · rw [if_neg h2, if_neg h2, if_neg h1]
def appS (E : Nat → Snap) : Option (Nat × Snap) → Nat → Snap
  | none => E
  | some (k, s) => updS E k s

/-- what a store leaves: the world as it was but for a snapshot's blocks -/
def storeUpon (W : World) (s : Snap) : Result Next → Prop
  | .ok .skip W' => W'.os = W.os ∧ W'.tape = W.tape ∧ W'.output = W.output ∧ W'.heap.size = W.heap.size ∧ (∀ b, ¬ (s.lo ≤ b ∧ b < s.hi) → W'.heap[b]? = W.heap[b]?)
  | _ => False

section
variable {P : Program} {md : Region.Mode} {ops : Array Oper} (w : World) (ch : List (Option Nat)) (sp st : List Nat) (RR : Nat → Nat → Value → World → Prop)

/-- the worlds in which operation k is shown -/
def clsG (s : Option Snap) (W : World) : Prop := Below w.heap.size w W ∧ match s with
  | none => True
  | some s => Agr s W
def chS (E : Nat → Snap) (k : Nat) : Option Snap := (ch.getD k none).map E

/-- operation k, o, goes well in each world -/
def OkG (P : Program) (ops : Array Oper) (k : Nat) (o : Oper) (s : Option Snap) (a : Act) : Prop :=
  Region.wanted o (yielded ops a.tmps) = true →
    if sp.contains k then ∀ W, clsG w s W → growUpon P W (RR k W.heap.size) ((execOp a.eval o).run P W)
    else if st.contains k then ∃ t, s = some t ∧ ∀ W, clsG w s W → storeUpon W t ((execOp a.eval o).run P W)
    else calmB o = true ∧ ∃ v, ∀ W, cls w W → o.quietAt P a (cls w) W v
/-- what operation k may leave: the value, the snapshot -/
def OutG (P : Program) (ops : Array Oper) (k : Nat) (o : Oper) (s : Option Snap) (a : Act) (v : Value) (u : Option (Nat × Snap)) : Prop :=
  (Region.wanted o (yielded ops a.tmps) = false ∧ v = undef ∧ u = none) ∨
  (Region.wanted o (yielded ops a.tmps) = true ∧
    if sp.contains k then ∃ lo z, RR k lo v z ∧ w.heap.size ≤ lo ∧ lo ≤ z.heap.size ∧ Below w.heap.size w z ∧ u = some (k, ⟨z, lo, z.heap.size⟩)
    else if st.contains k then v = undef ∧ ∃ t j W z, s = some t ∧ ch.getD k none = some j ∧ clsG w s W ∧ (execOp a.eval o).run P W = .ok .skip z ∧ t.hi ≤ z.heap.size ∧ Below w.heap.size w z ∧ u = some (j, ⟨z, t.lo, t.hi⟩)
    else u = none ∧ ∀ W, cls w W → o.quietAt P a (cls w) W v)

def gO (P : Program) (ops : Array Oper) (k : Nat) (o : Oper) (E : Nat → Snap) (K : (Nat → Snap) → Act → Prop) (a : Act) : Prop :=
  OkG w sp st RR P ops k o (chS ch E k) a ∧ ∀ v u, OutG w ch sp st RR P ops k o (chS ch E k) a v u → K (appS E u) (a.put o.dst v)

/-- the walk in the order of the text, over the numbers that are left -/
def walkG (P : Program) (ops : Array Oper) (Q : (Nat → Snap) → Act → Prop) : List Nat → (Nat → Snap) → Act → Prop
  | [], E, a => Q E a
  | k :: l, E, a => match ops[k]? with
    | none => False
    | some o => gO w ch sp st RR P ops k o E (walkG P ops Q l) a
variable {w ch sp st RR}

def Okay (w : World) (E : Nat → Snap) : Prop := ∀ k, (w.heap.size ≤ (E k).lo ∨ (E k).hi ≤ (E k).lo) ∧ ∃ W, Below w.heap.size w W ∧ Agr (E k) W
theorem cls_below {W : World} (h : cls w W) : Below w.heap.size w W := by
  obtain ⟨x, rfl⟩ := h
  exact plus_below w x
theorem Okay.cls {E : Nat → Snap} (h : Okay w E) (k : Nat) : ∃ W, clsG w (chS ch E k) W := by
  unfold chS
  cases hc : ch.getD k none with
  | none => exact ⟨w, Below.refl _ _, trivial⟩
  | some j =>
    obtain ⟨-, W, h1, h2⟩ := h j
    exact ⟨W, h1, h2⟩
theorem Okay.app {k : Nat} {o : Oper} {s : Option Snap} {a : Act} {v : Value} {u : Option (Nat × Snap)} {E : Nat → Snap} (h : Okay w E) (hS : chS ch E k = s) (ho : OutG w ch sp st RR P ops k o s a v u) : Okay w (appS E u) := by
  have key : ∀ (j : Nat) (z : World) (lo hi : Nat), (w.heap.size ≤ lo ∨ hi ≤ lo) → hi ≤ z.heap.size → Below w.heap.size w z → Okay w (appS E (some (j, ⟨z, lo, hi⟩))) := by
    intro j z lo hi h0 h1 h2 i
    show (_ ≤ (updS E j ⟨z, lo, hi⟩ i).lo ∨ (updS E j ⟨z, lo, hi⟩ i).hi ≤ (updS E j ⟨z, lo, hi⟩ i).lo) ∧ ∃ W, _ ∧ Agr (updS E j ⟨z, lo, hi⟩ i) W
    by_cases hi : i = j
    · subst hi
      rw [updS_same]
      exact ⟨h0, z, h2, h1, fun _ _ _ => rfl⟩
    · rw [updS_ne hi]; exact h i
  rcases ho with ⟨_, _, rfl⟩ | ⟨_, ho⟩
  · exact h
  · split at ho
    · obtain ⟨lo, z, _, h0, h1, h2, rfl⟩ := ho
      exact key _ _ _ _ (.inl h0) (Nat.le_refl _) h2
    · split at ho
      · obtain ⟨_, t, j, _, z, hs, hc, _, _, h1, h2, rfl⟩ := ho
        have : t = E j := by
          have := hS.trans hs
          unfold chS at this
          rw [hc] at this
          exact (Option.some.inj this).symm
        subst this
        exact key _ _ _ _ (h j).1 h1 h2
      · obtain ⟨rfl, _⟩ := ho
        exact h

theorem gO_mono {k : Nat} {o : Oper} {E : Nat → Snap} {a : Act} {K K' : (Nat → Snap) → Act → Prop} (hE : Okay w E) (h : ∀ E a, Okay w E → K E a → K' E a) (hh : gO w ch sp st RR P ops k o E K a) : gO w ch sp st RR P ops k o E K' a :=
  ⟨hh.1, fun v u hu => h _ _ (hE.app rfl hu) (hh.2 v u hu)⟩

/-- where it goes well, it leaves something -/
theorem out_some {k : Nat} {o : Oper} {E : Nat → Snap} {a : Act} (hE : Okay w E) (h : OkG w sp st RR P ops k o (chS ch E k) a) : ∃ v u, OutG w ch sp st RR P ops k o (chS ch E k) a v u := by
  obtain ⟨W, hW⟩ := hE.cls (ch := ch) k
  by_cases hw : Region.wanted o (yielded ops a.tmps) = true
  · have h := h hw
    by_cases hs : sp.contains k = true
    · rw [if_pos hs] at h
      obtain ⟨v, z, hb, hr⟩ := growUpon_some (h W hW)
      exact ⟨v, _, .inr ⟨hw, by rw [if_pos hs]; exact ⟨_, z, hr, hW.1.size, hb.size, hW.1.trans (hb.mono hW.1.size), rfl⟩⟩⟩
    · rw [if_neg hs] at h
      by_cases ht : st.contains k = true
      · rw [if_pos ht] at h
        obtain ⟨t, hst, h⟩ := h
        have hx := h W hW
        unfold storeUpon at hx
        unfold chS at hst
        rcases hc : ch.getD k none with _ | j
        · rw [hc] at hst; cases hst
        · have hst' : chS ch E k = some t := hst
          have htj : t = E j := by
            unfold chS at hst'
            rw [hc] at hst'
            exact (Option.some.inj hst').symm
          have hlo : w.heap.size ≤ t.lo ∨ t.hi ≤ t.lo := by rw [htj]; exact (hE j).1
          have hWs := hW
          rw [hst'] at hW
          generalize hrun : (execOp a.eval o).run P W = r at hx
          cases r with
          | halt h w'' => exact hx.elim
          | ok m W' =>
            cases m with
            | skip =>
              obtain ⟨e1, e2, e3, e4, e5⟩ := hx
              exact ⟨undef, _, .inr ⟨hw, by
                rw [if_neg hs, if_pos ht]
                exact ⟨rfl, t, j, W, W', hst, hc, hWs, hrun, by rw [e4]; exact hW.2.1, ⟨e1.trans hW.1.os, e2.trans hW.1.tape, e3.trans hW.1.output, by rw [e4]; exact hW.1.size, fun b hb => (e5 b (by omega)).trans (hW.1.block b hb)⟩, rfl⟩⟩⟩
            | _ => exact hx.elim
      · rw [if_neg ht] at h
        obtain ⟨_, v, hv⟩ := h
        exact ⟨v, none, .inr ⟨hw, by rw [if_neg hs, if_neg ht]; exact ⟨rfl, hv⟩⟩⟩
  · exact ⟨undef, none, .inl ⟨by simpa using hw, rfl, rfl⟩⟩

/-- two operations that go in either order -/
structure IndG (ch : List (Option Nat)) (st : List Nat) (ops : Array Oper) (i j : Nat) (oi oj : Oper) : Prop where
  ne : i ≠ j
  ap : oi.apart ops oj = true
  si : ∀ cs b, oi.op ≠ .select cs b
  sj : ∀ cs b, oj.op ≠ .select cs b
  c1 : ch.getD j none ≠ some i
  c2 : ch.getD i none ≠ some j
  c3 : (st.contains i = true ∨ st.contains j = true) → ∀ t, ch.getD i none = some t → ch.getD j none ≠ some t
theorem IndG.symm {i j : Nat} {oi oj : Oper} (h : IndG ch st ops i j oi oj) (hap : oj.apart ops oi = true) : IndG ch st ops j i oj oi :=
  ⟨h.ne.symm, hap, h.sj, h.si, h.c2, h.c1, fun hs t ht hi => h.c3 (hs.elim .inr .inl) t hi ht⟩

theorem out_idx {k : Nat} {o : Oper} {s : Option Snap} {a : Act} {v : Value} {u : Option (Nat × Snap)} (h : OutG w ch sp st RR P ops k o s a v u) (i : Nat) (x : Snap) (hu : u = some (i, x)) : i = k ∨ (st.contains k = true ∧ ch.getD k none = some i) := by
  rcases h with ⟨_, _, rfl⟩ | ⟨_, h⟩
  · cases hu
  · split at h
    · obtain ⟨lo, z, _, _, _, _, rfl⟩ := h
      left
      injection hu with hu
      injection hu with e _
      exact e.symm
    · split at h
      · rename_i hst
        obtain ⟨_, t, j, _, z, _, hc, _, _, _, _, rfl⟩ := h
        injection hu with hu
        injection hu with e _
        subst e
        exact .inr ⟨hst, hc⟩
      · obtain ⟨rfl, _⟩ := h
        cases hu

theorem chS_app {i j : Nat} {oi oj : Oper} (hI : IndG ch st ops i j oi oj) {s : Option Snap} {a : Act} {v : Value} {u : Option (Nat × Snap)} {E : Nat → Snap} (h : OutG w ch sp st RR P ops i oi s a v u) : chS ch (appS E u) j = chS ch E j := by
  unfold chS
  cases hc : ch.getD j none with
  | none => rfl
  | some t =>
    show some _ = some _
    rcases u with _ | ⟨x, y⟩
    · rfl
    · show some (updS E x y t) = some (E t)
      rw [updS_ne]
      rintro rfl
      rcases out_idx h t y rfl with e | ⟨h1, h2⟩
      · exact hI.c1 (by rw [hc, e])
      · exact hI.c3 (.inl h1) t h2 hc
theorem appS_comm {i j : Nat} {oi oj : Oper} (hI : IndG ch st ops i j oi oj) {s s' : Option Snap} {a a' : Act} {v v' : Value} {u u' : Option (Nat × Snap)} {E : Nat → Snap} (h : OutG w ch sp st RR P ops i oi s a v u) (h' : OutG w ch sp st RR P ops j oj s' a' v' u') : appS (appS E u) u' = appS (appS E u') u := by
  rcases u with _ | ⟨x, y⟩
  · rfl
  · rcases u' with _ | ⟨x', y'⟩
    · rfl
    · refine updS_comm E y y' ?_
      rintro rfl
      rcases out_idx h x y rfl with e | ⟨h1, h2⟩ <;> rcases out_idx h' x y' rfl with e' | ⟨h1', h2'⟩
      · exact hI.ne (e.symm.trans e')
      · exact hI.c1 (by rw [h2', e])
      · exact hI.c2 (by rw [h2, e'])
      · exact hI.c3 (.inl h1) x h2 h2'

theorem ok_put {j : Nat} {oj : Oper} {s : Option Snap} {a : Act} {d : Option Tmp} {v : Value} (hj : ∀ cs b, oj.op ≠ .select cs b) (h : ∀ x, d = some x → x ∉ oj.looksAt ops) :
    OkG w sp st RR P ops j oj s (a.put d v) ↔ OkG w sp st RR P ops j oj s a := by
  unfold OkG Oper.quietAt
  rw [wanted_put oj a d v h, execOp_put oj hj a d v h]
theorem out_put {j : Nat} {oj : Oper} {s : Option Snap} {a : Act} {d : Option Tmp} {v x : Value} {u : Option (Nat × Snap)} (hj : ∀ cs b, oj.op ≠ .select cs b) (h : ∀ x, d = some x → x ∉ oj.looksAt ops) :
    OutG w ch sp st RR P ops j oj s (a.put d v) x u ↔ OutG w ch sp st RR P ops j oj s a x u := by
  unfold OutG Oper.quietAt
  rw [wanted_put oj a d v h, execOp_put oj hj a d v h]

/-- i then j: j then i -/
theorem gO_swap {i j : Nat} {oi oj : Oper} (hI : IndG ch st ops i j oi oj) (hap : oj.apart ops oi = true) {K : (Nat → Snap) → Act → Prop} {E : Nat → Snap} {a : Act} (hE : Okay w E)
    (h : gO w ch sp st RR P ops i oi E (fun E' a' => gO w ch sp st RR P ops j oj E' K a') a) : gO w ch sp st RR P ops j oj E (fun E' a' => gO w ch sp st RR P ops i oi E' K a') a := by
  obtain ⟨h1, h2, h3⟩ := Oper.apart_spec hI.ap
  obtain ⟨hok, hall⟩ := h
  obtain ⟨v0, u0, ho0⟩ := out_some hE hok
  have hj0 := (hall v0 u0 ho0).1
  rw [chS_app hI ho0, ok_put hI.sj h1] at hj0
  refine ⟨hj0, fun x uj hoj => ⟨?_, fun v ui hoi => ?_⟩⟩
  · rw [chS_app (hI.symm hap) hoj, ok_put hI.si h3]
    exact hok
  · rw [chS_app (hI.symm hap) hoj, out_put hI.si h3] at hoi
    have := (hall v ui hoi).2 x uj (by rw [chS_app hI hoi, out_put hI.sj h1]; exact hoj)
    rw [appS_comm hI hoi hoj, Act.put_comm a v x h2] at this
    exact this

/-- one further behind is taken first -/
theorem walkG_pull {Q : (Nat → Snap) → Act → Prop} {j : Nat} {oj : Oper} (hj : ops[j]? = some oj) (l2 : List Nat) : ∀ (l1 : List Nat) (E : Nat → Snap) (a : Act), (∀ i ∈ l1, ∃ oi, ops[i]? = some oi ∧ IndG ch st ops i j oi oj ∧ oj.apart ops oi = true) → Okay w E →
    walkG w ch sp st RR P ops Q (l1 ++ j :: l2) E a → gO w ch sp st RR P ops j oj E (walkG w ch sp st RR P ops Q (l1 ++ l2)) a
  | [], E, a, _, _, h => by
    simp only [List.nil_append, walkG, hj] at h
    exact h
  | i :: l1, E, a, hI, hE, h => by
    obtain ⟨oi, hoi, hI1, hap⟩ := hI i List.mem_cons_self
    simp only [List.cons_append, walkG, hoi] at h ⊢
    refine gO_swap hI1 hap hE (gO_mono hE (fun E' a' hE' h' => ?_) h)
    exact walkG_pull hj l2 l1 E' a' (fun i hi => hI i (List.mem_cons_of_mem _ hi)) hE' h'

/-- closed facts about a region: whatever stands ahead of an operation in the text is waited for by it, or goes in either order with it -/
def indB (ch : List (Option Nat)) (st : List Nat) (ops : Array Oper) (i j : Nat) : Bool :=
  match ops[i]?, ops[j]? with
  | some oi, some oj => oi.apart ops oj && oj.apart ops oi && (ch.getD j none != some i) && (ch.getD i none != some j) && (!(st.contains i || st.contains j) || (ch.getD i none).isNone || ch.getD j none != ch.getD i none)
  | _, _ => false
def anc2 (md : Region.Mode) (ops : Array Oper) (i : Nat) : Nat → Nat → Bool
  | 0, _ => false
  | f + 1, j => match ops[j]? with
    | none => false
    | some oj => oj.after.any fun e => Region.binds md e && (e.on == i || (decide (i < e.on) && anc2 md ops i f e.on))
def frwB (md : Region.Mode) (ops : Array Oper) (ch : List (Option Nat)) (st : List Nat) : Bool :=
  Region.noSelect ops && (List.range ops.size).all fun j => ((ops[j]?).map fun oj => oj.after.all fun e => !Region.binds md e || decide (e.on < j)).getD false &&
    (List.range j).all fun i => anc2 md ops i 6 j || indB ch st ops i j
theorem anc2_anc {i : Nat} : ∀ (f j : Nat), anc2 md ops i f j = true → ancB md ops i f j = true
  | 0, _, h => by simp [anc2] at h
  | f + 1, j, h => by
    unfold anc2 at h
    unfold ancB
    cases hj : ops[j]? with
    | none => rw [hj] at h; simp at h
    | some oj =>
      rw [hj] at h
      obtain ⟨e, he, hb⟩ := Array.any_eq_true'.1 h
      simp only [Bool.and_eq_true, Bool.or_eq_true, decide_eq_true_eq] at hb
      refine Array.any_eq_true'.2 ⟨e, he, ?_⟩
      simp only [Bool.and_eq_true, Bool.or_eq_true]
      exact ⟨hb.1, hb.2.elim .inl fun h => .inr (anc2_anc f _ h.2)⟩

/-- a real world in which all snapshots stand, none over another -/
structure RealG (w : World) (E : Nat → Snap) (W : World) : Prop where
  base : Below w.heap.size w W
  agr : ∀ k, Agr (E k) W
  lo : ∀ k, w.heap.size ≤ (E k).lo ∨ (E k).hi ≤ (E k).lo
  dis : ∀ k j, k ≠ j → (E k).hi ≤ (E j).lo ∨ (E j).hi ≤ (E k).lo ∨ (E k).hi ≤ (E k).lo ∨ (E j).hi ≤ (E j).lo
theorem RealG.okay {E : Nat → Snap} {W : World} (h : RealG w E W) : Okay w E := fun k => ⟨h.lo k, W, h.base, h.agr k⟩
theorem RealG.make {E : Nat → Snap} {W z : World} (h : RealG w E W) (hb : Below W.heap.size W z) (k : Nat) : RealG w (updS E k ⟨z, W.heap.size, z.heap.size⟩) z := by
  refine ⟨h.base.trans (hb.mono h.base.size), fun j => ?_, fun j => ?_, fun i j hij => ?_⟩
  · by_cases hj : j = k
    · subst hj; rw [updS_same]; exact ⟨Nat.le_refl _, fun _ _ _ => rfl⟩
    · rw [updS_ne hj]
      have h1 := h.agr j
      exact ⟨Nat.le_trans h1.1 hb.size, fun b hb1 hb2 => (hb.block b (Nat.lt_of_lt_of_le hb2 h1.1)).trans (h1.2 b hb1 hb2)⟩
  · by_cases hj : j = k
    · subst hj; rw [updS_same]; exact .inl h.base.size
    · rw [updS_ne hj]; exact h.lo j
  · by_cases hi : i = k
    · subst hi
      rw [updS_same, updS_ne (Ne.symm hij)]
      exact .inr (.inl (h.agr j).1)
    · rw [updS_ne hi]
      by_cases hj : j = k
      · subst hj
        rw [updS_same]
        exact .inl (h.agr i).1
      · rw [updS_ne hj]; exact h.dis i j hij
theorem RealG.store {E : Nat → Snap} {W z : World} (h : RealG w E W) (j : Nat) (e1 : z.os = W.os) (e2 : z.tape = W.tape) (e3 : z.output = W.output) (e4 : z.heap.size = W.heap.size) (e5 : ∀ b, ¬ ((E j).lo ≤ b ∧ b < (E j).hi) → z.heap[b]? = W.heap[b]?) : RealG w (updS E j ⟨z, (E j).lo, (E j).hi⟩) z := by
  refine ⟨⟨e1.trans h.base.os, e2.trans h.base.tape, e3.trans h.base.output, by rw [e4]; exact h.base.size, fun b hb => (e5 b (by have := h.lo j; omega)).trans (h.base.block b hb)⟩, fun k => ?_, fun k => ?_, fun i k hik => ?_⟩
  · by_cases hk : k = j
    · subst hk; rw [updS_same]; exact ⟨by rw [e4]; exact (h.agr k).1, fun _ _ _ => rfl⟩
    · rw [updS_ne hk]
      have h1 := h.agr k
      exact ⟨by rw [e4]; exact h1.1, fun b hb1 hb2 => (e5 b (by have := h.dis k j hk; omega)).trans (h1.2 b hb1 hb2)⟩
  · by_cases hk : k = j
    · subst hk; rw [updS_same]; exact h.lo k
    · rw [updS_ne hk]; exact h.lo k
  · by_cases hi : i = j
    · subst hi
      rw [updS_same, updS_ne (Ne.symm hik)]
      exact h.dis i k hik
    · rw [updS_ne hi]
      by_cases hk : k = j
      · subst hk; rw [updS_same]; exact h.dis i k hik
      · rw [updS_ne hk]; exact h.dis i k hik

theorem cls_of {W : World} (h : Below w.heap.size w W) : cls w W := below_plus h

theorem wpAny_of_walkG {Q : (Nat → Snap) → Act → Prop} {Q' : Exit → Act → World → Prop} (hB : frwB md ops ch st = true) (hQ : ∀ E a W, RealG w E W → Q E a → Q' .normal a W) :
    ∀ (n : Nat) (l : List Nat) (seen : Array Bool) (E : Nat → Snap) (a : Act) (W : World), l.length = n → l.Pairwise (· < ·) → (∀ k, k ∈ l ↔ seen.getD k true = false) → Closed md ops seen → RealG w E W → walkG w ch sp st RR P ops Q l E a → wpAny P md ops Q' n seen a W := by
  simp only [frwB, Bool.and_eq_true] at hB
  obtain ⟨hsel, hall⟩ := hB
  have hpre : ∀ j oj, ops[j]? = some oj → ∀ e ∈ oj.after, Region.binds md e = true → e.on < j := fun j oj hj e he hb => by
    have h1 := List.all_eq_true.1 hall j (List.mem_range.2 (Array.getElem?_eq_some_iff.1 hj).1)
    simp only [Bool.and_eq_true, hj, Option.map_some, Option.getD_some] at h1
    have := Array.all_eq_true'.1 h1.1 e he
    simpa [hb] using this
  have hrdy : ∀ (l : List Nat) (seen : Array Bool), (∀ k, k ∈ l ↔ seen.getD k true = false) → l.Pairwise (· < ·) → Closed md ops seen → Region.ready md ops seen = [] → l = [] := by
    intro l seen hm hp hc hr
    cases l with
    | nil => rfl
    | cons k l =>
      exfalso
      have hk := (hm k).1 List.mem_cons_self
      have hlt : k < ops.size := by
        rw [← hc.1]
        rcases Nat.lt_or_ge k seen.size with h | h
        · exact h
        · rw [Array.getD_eq_getD_getElem?, Array.getElem?_eq_none h] at hk; cases hk
      have : k ∈ Region.ready md ops seen := mem_ready.2 ⟨hk, ops[k], Array.getElem?_eq_getElem hlt, fun e he hb => by
        have h1 := hpre k _ (Array.getElem?_eq_getElem hlt) e he hb
        cases hse : seen.getD e.on false with
        | true => rfl
        | false =>
          have hnot : e.on ∉ k :: l := fun hin => by
            rcases List.mem_cons.1 hin with h | h
            · omega
            · have := (List.pairwise_cons.1 hp).1 _ h; omega
          have := mt (hm e.on).2 hnot
          exfalso
          apply this
          have hlt2 : e.on < seen.size := by rw [hc.1]; omega
          rw [Array.getD_eq_getD_getElem?, Array.getElem?_eq_getElem hlt2] at hse ⊢
          exact hse⟩
      rw [hr] at this
      cases this
  intro n
  induction n with
  | zero =>
    intro l seen E a W hl hp hm hc hR h
    obtain rfl := List.eq_nil_of_length_eq_zero hl
    refine ⟨?_, hQ _ _ _ hR h⟩
    cases hr : Region.ready md ops seen with
    | nil => rfl
    | cons j r =>
      have hj : j ∈ Region.ready md ops seen := by rw [hr]; exact List.mem_cons_self
      exact absurd ((hm j).2 (mem_ready.1 hj).1) (by simp)
  | succ n ih =>
    intro l seen E a W hl hp hm hc hR h
    refine ⟨fun hr => ?_, fun j hj => ?_⟩
    · obtain rfl := hrdy l seen hm hp hc hr
      simp at hl
    · obtain ⟨hun, oj, hoj, hpred⟩ := mem_ready.1 hj
      obtain ⟨l1, l2, rfl⟩ := List.append_of_mem ((hm j).2 hun)
      have hl1 : ∀ i ∈ l1, i < j := fun i hi => (List.pairwise_append.1 hp).2.2 i hi j List.mem_cons_self
      have hjlt := (Array.getElem?_eq_some_iff.1 hoj).1
      have h1 := List.all_eq_true.1 hall j (List.mem_range.2 hjlt)
      simp only [Bool.and_eq_true] at h1
      have hind : ∀ i ∈ l1, ∃ oi, ops[i]? = some oi ∧ IndG ch st ops i j oi oj ∧ oj.apart ops oi = true := fun i hi => by
        have h2 := List.all_eq_true.1 h1.2 i (List.mem_range.2 (hl1 i hi))
        have hiun : seen.getD i true = false := (hm i).1 (List.mem_append_left _ hi)
        have hna : anc2 md ops i 6 j = false := by
          cases hh : anc2 md ops i 6 j with
          | false => rfl
          | true =>
            have := anc_seen hc i 6 j oj hoj hpred (anc2_anc _ _ hh)
            rw [getD_both hiun] at this
            cases this
        rw [hna, Bool.false_or] at h2
        have hilt : i < ops.size := Nat.lt_trans (hl1 i hi) hjlt
        have hoi := Array.getElem?_eq_getElem hilt
        refine ⟨_, hoi, ?_⟩
        unfold indB at h2
        rw [hoi, hoj] at h2
        simp only [Bool.and_eq_true, bne_iff_ne, ne_eq, Bool.or_eq_true, Bool.not_eq_true', Option.isNone_iff_eq_none] at h2
        obtain ⟨⟨⟨⟨a1, a2⟩, a3⟩, a4⟩, a5⟩ := h2
        have hs := Region.noSelect_spec hsel
        refine ⟨⟨by have := hl1 i hi; omega, a1, fun cs b => hs _ _ cs b hoi, fun cs b => hs _ _ cs b hoj, a3, a4, fun hst t ht hjt => ?_⟩, a2⟩
        rcases a5 with (a5 | a5) | a5
        · rw [Bool.or_eq_false_iff] at a5
          rcases hst with hst | hst
          · rw [a5.1] at hst; cases hst
          · rw [a5.2] at hst; cases hst
        · rw [ht] at a5; cases a5
        · exact a5 (by rw [ht, hjt])
      have hg := walkG_pull hoj l2 l1 E a hind hR.okay h
      have hnext : ∀ E' a' W', RealG w E' W' → walkG w ch sp st RR P ops Q (l1 ++ l2) E' a' → wpAny P md ops Q' n (seen.setIfInBounds j true) a' W' := fun E' a' W' hR' h' => by
        refine ih (l1 ++ l2) _ E' a' W' (by simp at hl ⊢; omega) ?_ (fun k => ?_) (hc.set hj) hR' h'
        · rw [List.pairwise_append, List.pairwise_cons] at hp
          rw [List.pairwise_append]
          exact ⟨hp.1, hp.2.1.2, fun x hx y hy => hp.2.2 x hx y (List.mem_cons_of_mem _ hy)⟩
        · have hjn1 : j ∉ l1 := fun h => absurd (hl1 j h) (Nat.lt_irrefl _)
          have hjn2 : j ∉ l2 := fun h => by
            rw [List.pairwise_append, List.pairwise_cons] at hp
            exact absurd (hp.2.1.1 j h) (Nat.lt_irrefl _)
          by_cases hkj : k = j
          · subst hkj
            constructor
            · intro h
              rcases List.mem_append.1 h with h | h
              · exact absurd h hjn1
              · exact absurd h hjn2
            · intro h
              rw [Array.getD_eq_getD_getElem?, Array.getElem?_setIfInBounds_self_of_lt (by rw [hc.1]; exact hjlt)] at h
              cases h
          · rw [getD_set_ne true (Ne.symm hkj), ← hm k]
            simp only [List.mem_append, List.mem_cons]
            constructor
            · rintro (h | h)
              · exact .inl h
              · exact .inr (.inr h)
            · rintro (h | h | h)
              · exact .inl h
              · exact absurd h hkj
              · exact .inr h
      unfold wpOp
      simp only [hoj]
      obtain ⟨hok, hout⟩ := hg
      have hcls : clsG w (chS ch E j) W := by
        refine ⟨hR.base, ?_⟩
        unfold chS
        cases ch.getD j none with
        | none => trivial
        | some t => exact hR.agr t
      split
      · rename_i hw
        refine .inl ?_
        have hok := hok hw
        by_cases hs : sp.contains j = true
        · rw [if_pos hs] at hok
          have hgr := hok W hcls
          have fin : ∀ v z, Below W.heap.size W z → RR j W.heap.size v z → wpAny P md ops Q' n (seen.setIfInBounds j true) (a.put oj.dst v) z := fun v z hb hr =>
            hnext _ _ _ (hR.make hb j) (hout v (some (j, ⟨z, W.heap.size, z.heap.size⟩)) (.inr ⟨hw, by rw [if_pos hs]; exact ⟨_, z, hr, hR.base.size, hb.size, hR.base.trans (hb.mono hR.base.size), rfl⟩⟩))
          unfold growUpon at hgr
          unfold Oper.wp
          generalize (execOp a.eval oj).run P W = r at *
          split at hgr
          · exact fin _ _ hgr.1 hgr.2
          · obtain ⟨rfl, hcall⟩ := hgr
            refine hcall.mono fun e w'' ⟨v, he, hb, hr⟩ => ?_
            subst he
            exact fin v w'' hb hr
          · exact hgr.elim
        · rw [if_neg hs] at hok
          by_cases ht : st.contains j = true
          · rw [if_pos ht] at hok
            obtain ⟨t, hst, hok⟩ := hok
            have hx := hok W hcls
            rcases hcj : ch.getD j none with _ | i
            · unfold chS at hst; rw [hcj] at hst; cases hst
            · have hti : t = E i := by
                unfold chS at hst
                rw [hcj] at hst
                exact (Option.some.inj hst).symm
              unfold storeUpon at hx
              unfold Oper.wp
              generalize hrun : (execOp a.eval oj).run P W = r at *
              cases r with
              | halt h w'' => exact hx.elim
              | ok m W' =>
                cases m with
                | skip =>
                  obtain ⟨e1, e2, e3, e4, e5⟩ := hx
                  subst hti
                  have hR' := hR.store i e1 e2 e3 e4 e5
                  exact hnext _ _ _ hR' (hout undef (some (i, ⟨W', (E i).lo, (E i).hi⟩)) (.inr ⟨hw, by rw [if_neg hs, if_pos ht]; exact ⟨rfl, _, i, W, W', hst, hcj, hcls, hrun, by rw [e4]; exact (hR.agr i).1, hR'.base, rfl⟩⟩))
                | _ => exact hx.elim
          · rw [if_neg ht] at hok
            obtain ⟨hcalm, v, hv⟩ := hok
            have hq := hv W (cls_of hR.base)
            have hn := hnext _ _ W hR (hout v none (.inr ⟨hw, by rw [if_neg hs, if_neg ht]; exact ⟨rfl, hv⟩⟩))
            unfold Oper.quietAt at hq
            unfold Oper.wp
            have hne := calm_spec P W
            cases hr : (execOp a.eval oj).run P W with
            | halt h w'' => rw [hr] at hq; simp [Oper.quietUpon] at hq
            | ok m w'' =>
              rw [hr] at hq
              cases m with
              | value x =>
                obtain ⟨rfl, rfl⟩ := hq
                exact hn
              | skip =>
                obtain ⟨rfl, rfl⟩ := hq
                exact hn
              | enter f args => exact absurd hr (hne w'' f args hcalm _)
              | _ => simp [Oper.quietUpon] at hq
      · rename_i hw
        exact hnext _ _ W hR (hout undef none (.inl ⟨by simpa using hw, rfl, rfl⟩))

/-! the walk, operation by operation -/
def walkH (w : World) (ch : List (Option Nat)) (sp st : List Nat) (RR : Nat → Nat → Value → World → Prop) (P : Program) (ops : Array Oper) (Q : (Nat → Snap) → Act → Prop) : List Oper → Nat → (Nat → Snap) → Act → Prop
  | [], _, E, a => Q E a
  | o :: l, k, E, a => gO w ch sp st RR P ops k o E (walkH w ch sp st RR P ops Q l (k + 1)) a

theorem walkG_of_H {Q : (Nat → Snap) → Act → Prop} : ∀ (l : List Oper) (k : Nat) (E : Nat → Snap) (a : Act), (∀ j, j < l.length → ops[k + j]? = l[j]?) → walkH w ch sp st RR P ops Q l k E a → walkG w ch sp st RR P ops Q (List.range' k l.length) E a
  | [], _, _, _, _, h => h
  | o :: l, k, E, a, hl, h => by
    have h0 : ops[k]? = some o := by simpa using hl 0 (by simp)
    simp only [List.length_cons, List.range'_succ, walkG, h0]
    exact ⟨h.1, fun v u hu => walkG_of_H l (k + 1) _ _ (fun j hj => by have := hl (j + 1) (by simp; omega); simpa [Nat.add_assoc, Nat.add_comm 1 j] using this) (h.2 v u hu)⟩

theorem wp_region_frw {id : Nat} {Q : Exit → Act → World → Prop} {a : Act} {l : List Oper} (ch : List (Option Nat)) (sp st : List Nat) (RR : Nat → Nat → Value → World → Prop) (hm : P.follows .mixedOrders = true) (hB : frwB .any l.toArray ch st = true)
    (h : walkH w ch sp st RR P l.toArray (fun E a' => ∀ W, RealG w E W → Q .normal a' W) l 0 (fun _ => ⟨w, 0, 0⟩) a) : (Code.region id l.toArray true).wp P Q a w := by
  refine wp_region_any hm ?_
  have hR : RealG w (fun _ => ⟨w, 0, 0⟩) { w with drawn := w.drawn + 1 } :=
    ⟨⟨rfl, rfl, rfl, Nat.le_refl _, fun _ _ => rfl⟩, fun _ => ⟨Nat.zero_le _, fun b _ hb => absurd hb (Nat.not_lt_zero _)⟩, fun _ => .inr (Nat.le_refl _), fun _ _ _ => .inl (Nat.le_refl _)⟩
  have hG := walkG_of_H (ops := l.toArray) l 0 _ a (fun j _ => by simp) h
  have := wpAny_of_walkG (Q' := Q) hB (fun E a W hR hq => hq W hR) l.length (List.range' 0 l.length) (Array.replicate l.toArray.size false) (fun _ => ⟨w, 0, 0⟩) a { w with drawn := w.drawn + 1 } (by simp) List.pairwise_lt_range' (fun k => by
    rw [List.mem_range']
    constructor
    · rintro ⟨i, hi, rfl⟩
      rw [Array.getD_eq_getD_getElem?, Array.getElem?_replicate]
      simp at hi ⊢
      simp [hi]
    · intro hk
      rw [Array.getD_eq_getD_getElem?, Array.getElem?_replicate] at hk
      by_cases hlt : k < l.toArray.size
      · exact ⟨k, by simpa using hlt, by simp⟩
      · rw [if_neg hlt] at hk; cases hk) ⟨by simp, fun j oj _ hl => (by rw [getD_replicate_false] at hl; cases hl)⟩ hR hG
  simpa using this

theorem walkH_end {Q : (Nat → Snap) → Act → Prop} {E : Nat → Snap} {k : Nat} {a : Act} (h : Q E a) : walkH w ch sp st RR P ops Q [] k E a := h
/-- an operation that reads or reckons -/
theorem walkH_one {Q : (Nat → Snap) → Act → Prop} {E : Nat → Snap} {o : Oper} {l : List Oper} {k : Nat} {a : Act} (hs : sp.contains k = false) (ht : st.contains k = false) (hc : calmB o = true)
    (h : wpQuiet P ops (cls w) (walkH w ch sp st RR P ops Q l (k + 1) E) [o] a) : walkH w ch sp st RR P ops Q (o :: l) k E a := by
  unfold wpQuiet at h
  by_cases hw : Region.wanted o (yielded ops a.tmps) = true
  · rw [if_pos hw] at h
    obtain ⟨v, hv, hk⟩ := h
    refine ⟨fun _ => by rw [if_neg (by rw [hs]; decide), if_neg (by rw [ht]; decide)]; exact ⟨hc, v, hv⟩, fun x u hu => ?_⟩
    rcases hu with ⟨h0, _⟩ | ⟨_, hu⟩
    · rw [hw] at h0; cases h0
    · rw [if_neg (by rw [hs]; decide), if_neg (by rw [ht]; decide)] at hu
      obtain ⟨rfl, hx⟩ := hu
      obtain rfl : x = v := quiet_one (cls_self w) hc (hx _ (cls_self w)) (hv _ (cls_self w))
      exact hk
  · have hw' : Region.wanted o (yielded ops a.tmps) = false := by simpa using hw
    rw [if_neg hw] at h
    refine ⟨fun h0 => absurd h0 hw, fun x u hu => ?_⟩
    rcases hu with ⟨_, rfl, rfl⟩ | ⟨h0, _⟩
    · exact h
    · rw [hw'] at h0; cases h0
/-- an operation that makes memory -/
theorem walkH_make {Q : (Nat → Snap) → Act → Prop} {E : Nat → Snap} {o : Oper} {l : List Oper} {k : Nat} {a : Act} (hs : sp.contains k = true) (hc : ch.getD k none = none) (hw : Region.wanted o (yielded ops a.tmps) = true)
    (h1 : ∀ x, growUpon P (plus w x) (RR k (plus w x).heap.size) ((execOp a.eval o).run P (plus w x)))
    (h2 : ∀ v lo z, RR k lo v z → w.heap.size ≤ lo → lo ≤ z.heap.size → Below w.heap.size w z → walkH w ch sp st RR P ops Q l (k + 1) (updS E k ⟨z, lo, z.heap.size⟩) (a.put o.dst v)) : walkH w ch sp st RR P ops Q (o :: l) k E a := by
  refine ⟨fun _ => ?_, fun x u hu => ?_⟩
  · rw [if_pos hs]
    intro W hW
    obtain ⟨y, rfl⟩ := below_plus hW.1
    exact h1 y
  · rcases hu with ⟨h0, _⟩ | ⟨_, hu⟩
    · rw [hw] at h0; cases h0
    · rw [if_pos hs] at hu
      obtain ⟨lo, z, a1, a2, a3, a4, rfl⟩ := hu
      exact h2 x lo z a1 a2 a3 a4
/-- the same, where it reads what another one made -/
theorem walkH_make_on {Q : (Nat → Snap) → Act → Prop} {E : Nat → Snap} {o : Oper} {l : List Oper} {k j : Nat} {a : Act} (hs : sp.contains k = true) (hc : ch.getD k none = some j) (hw : Region.wanted o (yielded ops a.tmps) = true)
    (h1 : ∀ W, Below w.heap.size w W → Agr (E j) W → growUpon P W (RR k W.heap.size) ((execOp a.eval o).run P W))
    (h2 : ∀ v lo z, RR k lo v z → w.heap.size ≤ lo → lo ≤ z.heap.size → Below w.heap.size w z → walkH w ch sp st RR P ops Q l (k + 1) (updS E k ⟨z, lo, z.heap.size⟩) (a.put o.dst v)) : walkH w ch sp st RR P ops Q (o :: l) k E a := by
  refine ⟨fun _ => ?_, fun x u hu => ?_⟩
  · rw [if_pos hs]
    intro W hW
    unfold chS at hW
    rw [hc] at hW
    exact h1 W hW.1 hW.2
  · rcases hu with ⟨h0, _⟩ | ⟨_, hu⟩
    · rw [hw] at h0; cases h0
    · rw [if_pos hs] at hu
      obtain ⟨lo, z, a1, a2, a3, a4, rfl⟩ := hu
      exact h2 x lo z a1 a2 a3 a4
/-- a store into what operation j made -/
theorem walkH_store {Q : (Nat → Snap) → Act → Prop} {E : Nat → Snap} {o : Oper} {l : List Oper} {k j : Nat} {a : Act} (hs : sp.contains k = false) (ht : st.contains k = true) (hc : ch.getD k none = some j) (hw : Region.wanted o (yielded ops a.tmps) = true)
    (h1 : ∀ W, Below w.heap.size w W → Agr (E j) W → ∃ z, (execOp a.eval o).run P W = .ok .skip z ∧ storeUpon W (E j) (.ok .skip z) ∧ (Below w.heap.size w z → walkH w ch sp st RR P ops Q l (k + 1) (updS E j ⟨z, (E j).lo, (E j).hi⟩) (a.put o.dst undef))) : walkH w ch sp st RR P ops Q (o :: l) k E a := by
  have hch : chS ch E k = some (E j) := by unfold chS; rw [hc]; rfl
  refine ⟨fun _ => ?_, fun x u hu => ?_⟩
  · rw [if_neg (by rw [hs]; decide), if_pos ht, hch]
    refine ⟨_, rfl, fun W hW => ?_⟩
    obtain ⟨z, e1, e2, _⟩ := h1 W hW.1 hW.2
    rw [e1]; exact e2
  · rcases hu with ⟨h0, _⟩ | ⟨_, hu⟩
    · rw [hw] at h0; cases h0
    · rw [if_neg (by rw [hs]; decide), if_pos ht, hch] at hu
      obtain ⟨rfl, t, i, W, z, e1, e2, hW, hr, _, hb, rfl⟩ := hu
      obtain rfl : E j = t := Option.some.inj e1
      obtain rfl : j = i := Option.some.inj (hc.symm.trans e2)
      obtain ⟨z', f1, f2, f3⟩ := h1 W hW.1 hW.2
      rw [hr] at f1
      injection f1 with _ f1
      subst f1
      exact f3 hb
end

theorem grow_alloc {P : Program} {W : World} {t : TypeId} {cs : Array Value} {R : Value → World → Prop} {r : Result Next} (h : r = .ok (.value (.pointer (some ⟨W.heap.size, 0, none⟩))) (W.alloc (.cells cs t))) (hR : R (.pointer (some ⟨W.heap.size, 0, none⟩)) (W.alloc (.cells cs t))) : growUpon P W R r := by
  subst h; exact ⟨below_alloc _ _, hR⟩

/-- what a snapshot keeps -/
theorem Agr.blk {s : Snap} {W : World} (h : Agr s W) {g : Nat} {t : TypeId} {cs : Array Value} (hb : Blk s.z g t cs) (h1 : s.lo ≤ g) (h2 : g < s.hi) : Blk W g t cs := (h.2 g h1 h2).trans hb
theorem Agr.own {s : Snap} {W : World} (h : Agr s W) {e : TypeId} {size n : Nat} {v : Value} {xs : List Value} (ho : s.z.ownsRow s.lo e size v n xs) (h2 : s.hi = s.z.heap.size) : W.ownsRow s.lo e size v n xs := by
  refine ⟨ho.1, ?_⟩
  rcases ho.2 with hn | ⟨g, cap, cur, rfl, hbg, hgg, rest⟩
  · exact .inl hn
  · have hlt := (Array.getElem?_eq_some_iff.1 hgg).1
    exact .inr ⟨g, cap, cur, rfl, hbg, (h.2 g hbg (by omega)).trans hgg, rest⟩
theorem storeUpon.of {W z : World} {s : Snap} (h : z.os = W.os ∧ z.tape = W.tape ∧ z.output = W.output ∧ z.heap.size = W.heap.size ∧ (∀ b, ¬ (s.lo ≤ b ∧ b < s.hi) → z.heap[b]? = W.heap[b]?)) : storeUpon W s (.ok .skip z) := h
theorem storeUpon.cell {W z : World} {s : Snap} (h : storeUpon W s (.ok .skip z)) (p : Addr) (v : Value) (h1 : s.lo ≤ p.block) (h2 : p.block < s.hi) : storeUpon W s (.ok .skip (z.setCell p v)) := by
  obtain ⟨e1, e2, e3, e4, e5⟩ := h
  exact ⟨e1, e2, e3, (by simp [World.setCell] : (z.setCell p v).heap.size = z.heap.size).trans e4, fun b hb => (heap_setCell_other z p b v (by rintro rfl; exact hb ⟨h1, h2⟩)).trans (e5 b hb)⟩
theorem storeUpon.same (W : World) (s : Snap) : storeUpon W s (.ok .skip W) := ⟨rfl, rfl, rfl, rfl, fun _ _ => rfl⟩

end Go.Proofs.Ytgadedpcekiljaa
