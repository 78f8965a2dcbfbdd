/- Joined: Tp6, Tp7, Tp12, Tp17, Tp18, Tp20, Tp14, Tp21, Tp13, Tp15, Tp16, Tp19. -/
import Derived.Test.YtiogckgchlnldaaGreatQ27
import Derived.RegionIn
import Derived.Sort.CutIn
import Derived.Test.YtiogckgchlnldaaGreatQ26
import Derived.Test.YtiogckgchlnldaaGreatQ19
import Derived.Test.YtiogckgchlnldaaGreatQ22
set_option linter.unusedSimpArgs false
set_option linter.unusedVariables false
/- Layer 10: the program's Read of notes. -/
set_option linter.unusedSimpArgs false
set_option linter.unusedVariables false
namespace Go.Proofs.YtiogckgchlnldaaGreat
open Go.RowKit Go.Shelf
set_option maxRecDepth 100000

attribute [local go_sem] Oper.semAt_some

theorem addS' (b o i : Nat) : (⟨b, o, none⟩ : Addr).add i = ⟨b, o + i, none⟩ := by
  unfold Addr.add
  split
  · rename_i h0; subst h0; rfl
  · rfl
/-- what is appended is of the call's own, within a fence -/
theorem appR1F {F : Fence} {n : Nat} {P : Program} {α : Type} {t e : TypeId} {enc : α → List Value} {sz bytes : Nat} (E : Elt P t e enc sz bytes) (w : World) {ops : Array Oper} {rest : List Oper} {o : Oper} {a : Act} {Q : Exit → Act → World → Prop} (hgd : o.guard = none) (s x : Operand)
    (ho : o.op = .call { callee := .builtin .append, args := #[s, x], argTypes := #[t, t] })
    (base : Nat) (v : Value) (L : List α) (hs : a.eval s = v) (hown : OwnR w base e enc sz v L) (g c : Nat) (y : α) (u : TypeId) (cs : Array Value)
    (hx : a.eval x = .slice (some ⟨g, 0, none⟩) 1 c) (hb : Blk w g u cs) (hcs : cs = (enc y).toArray) (hlen : L.length + 1 ≤ maxLen) (hbytes : (L.length + 1) * bytes ≤ 140737488355328) (hbase : base ≤ w.heap.size)
    (h : ∀ g' c' w', OwnR w' base e enc sz (.slice (some ⟨g', 0, none⟩) (L.length + 1) c') (L ++ [y]) → w.grownBy w' v.ownBlock → base ≤ g' → wpListIn F n P ops Q rest (a.put o.dst (.slice (some ⟨g', 0, none⟩) (L.length + 1) c')) w') : wpListIn F n P ops Q (o :: rest) a w := by
  subst hcs
  obtain ⟨z, hinfo, hzs⟩ := E.info
  obtain ⟨i, hi, hz, hsz, hby⟩ := info_parts hinfo
  refine wpListIn_append_own (P := P) w hgd s x t ho base e i z sz bytes E.under hi hz hsz hby hzs E.pos v L.length (L.flatMap enc) hs hown ⟨g, 0, none⟩ 1 c (enc y) hx (by rw [E.len, Nat.one_mul]) ?_ (E.one y) hlen hbytes hbase fun v' w' h2 h3 _ => ?_
  · intro j u hj
    rw [addS', hb.cell, Nat.zero_add]
    simpa using hj
  · have h4 : OwnR w' base e enc sz v' (L ++ [y]) := by unfold OwnR; rw [List.length_append, List.flatMap_append]; simpa using h2
    rcases h4.2 with ⟨_, h0⟩ | ⟨g', cap, cur, hv, hg, _⟩
    · simp at h0
    · rw [List.length_append] at hv
      subst hv
      exact h g' cap w' h4 h3 hg

/-- a row's block is of its elements' type -/
theorem home_of {W : World} {base size n : Nat} {e : TypeId} {v : Value} {xs : List Value} (h : W.ownsRow base e size v n xs) {k : Nat} (hk : v.ownBlock = some k) : ∃ cs, W.heap[k]? = some (.cells cs e (0, 0)) := by
  rcases h.2 with ⟨rfl, _⟩ | ⟨g, cap, cur, rfl, hbg, hgg, _⟩
  · cases hk
  · cases hk
    exact ⟨cur, hgg⟩
theorem only_of {W : World} {g : Nat} {t u : TypeId} {cs cs' : Array Value} (h : W.heap[g]? = some (.cells cs t (0, 0))) (k : W.heap[g]? = some (.cells cs' u (0, 0))) : t = u := by
  have e := Option.some.inj (h.symm.trans k)
  injection e with _ e2 _
section
variable {w w' : World} {V V2 : Value} {T : List Bx} {x : Bx}
theorem Gn.snocD (h : Gn w V T) (hr : OwnR w' 0 22 encBx 1 V2 (T ++ [x])) (hg : w.grownBy w' V.ownBlock) (hx : OwnB w 0 (vaN x) x.b) (hd : ∀ t ∈ T, ∀ k, (vaN t).ownBlock = some k → (vaN x).ownBlock ≠ some k) : Gn w' V2 (T ++ [x]) := by
  have tt : Tou (fun k => V.ownBlock = some k) w w' := Tou.of_grown hg (fun k e => e)
  have hV : ∀ t : Bx, OwnB w 0 (vaN t) t.b → ∀ k, (vaN t).ownBlock = some k → V.ownBlock ≠ some k := fun t ht k h1 h2 => by
    obtain ⟨c1, e1⟩ := home_of ht h1
    obtain ⟨c2, e2⟩ := home_of h.row h2
    exact absurd (only_of e1 e2) (by decide)
  have hel : ∀ t ∈ T ++ [x], OwnB w' 0 (vaN t) t.b := fun t ht => by
    rw [List.mem_append, List.mem_singleton] at ht
    rcases ht with ht | rfl
    · exact tt.row (h.el t ht) (fun k hk e => hV t (h.el t ht) k hk e)
    · exact tt.row hx (fun k hk e => hV t hx k hk e)
  refine ⟨hr, hel, ?_, fun t ht k h1 h2 => ?_⟩
  · rw [List.pairwise_append]
    refine ⟨h.ap, List.pairwise_singleton _ _, fun a ha b hb k hk hk2 => ?_⟩
    rw [List.mem_singleton] at hb
    subst hb
    exact hd a ha k hk hk2
  · obtain ⟨c1, e1⟩ := home_of (hel t ht) h1
    obtain ⟨c2, e2⟩ := home_of hr h2
    exact absurd (only_of e1 e2) (by decide)
theorem Gn.off (h : Gn w V T) {g : Nat} {t : TypeId} {cs : Array Value} (hb : Blk w g t cs) (h1 : t ≠ 22) (h2 : t ≠ 5) : ¬ footG vaN V T g := by
  rintro (hk | ⟨y, hy, hk⟩)
  · obtain ⟨c2, e2⟩ := home_of h.row hk
    exact h1 (only_of hb e2)
  · obtain ⟨c2, e2⟩ := home_of (h.el y hy) hk
    exact h2 (only_of hb e2)
theorem Gn.put (h : Gn w V T) {g : Nat} {t : TypeId} {cs : Array Value} (hb : Blk w g t cs) (h1 : t ≠ 22) (h2 : t ≠ 5) (i : Nat) (v : Value) : Gn (w.setCell ⟨g, i, none⟩ v) V T :=
  h.kept (F := fun k => k = g) (Tou.set g i v rfl) (fun k hk e => by subst e; exact h.off hb h1 h2 hk)
theorem Gn.step {B : Nat} {T' : TypeId} (h : Gn w V T) (k : StepR B T' w w') (h1 : 22 ≠ T') (h2 : 5 ≠ T') : Gn w' V T :=
  ⟨k.row h.row h1, fun t ht => k.row (h.el t ht) h2, h.ap, h.ne⟩
theorem Gn.obj (h : Gn w V T) {l : Nat} {o o' : Obj} (hl : w.heap[l]? = some o) (ho : o.isCells = false) : Gn (w.putObj l o') V T := by
  have hg := grownBy_putObj' w l o'
  refine h.kept (F := fun k => k = l) ⟨hg.os, hg.tape, hg.output, hg.size, fun k hk hf => hg.block k hk (fun e => hf (by injection e))⟩ (fun k hk e => ?_)
  subst e
  rcases hk with hk | ⟨y, hy, hk⟩
  · obtain ⟨c2, e2⟩ := home_of h.row hk
    rw [hl] at e2
    injection e2 with e2
    subst e2
    cases ho
  · obtain ⟨c2, e2⟩ := home_of (h.el y hy) hk
    rw [hl] at e2
    injection e2 with e2
    subst e2
    cases ho
end

theorem keepsT {F : Nat → Prop} {W W' : World} (t : Tou F W W') (hF : ∀ k, F k → ∃ cs e z, W.heap[k]? = some (.cells cs e z)) (B : Nat) : KeepsFrom B W W' :=
  ⟨t.size, fun k o _ ho hc => (t.block k (Array.getElem?_eq_some_iff.1 ho).1 (fun hk => by
    obtain ⟨cs, e, z, h⟩ := hF k hk
    rw [ho] at h
    injection h with h
    subst h
    cases hc)).trans ho⟩
def sumN (L : List (List UInt8)) : Nat := ((ntN L).map (·.2)).sum
/-- what stands between the rounds -/
structure IR (w W0 : World) (pre : List Bx) (W : World) : Prop where
  top : Below w.heap.size w W
  sz : W0.heap.size ≤ W.heap.size
  row : ∃ V, Blk W w.heap.size 42 #[V] ∧ OwnR W W0.heap.size 22 encBx 1 V pre ∧ Gn W V pre ∧ ∀ k, footG vaN V pre k → W0.heap.size ≤ k
  sum : Blk W (w.heap.size + 1) 3 #[.int .i64 (sumN (pre.map Bx.b) : Nat)]
  le : sumN (pre.map Bx.b) ≤ pre.length * 2000
theorem sumN_snoc (L : List (List UInt8)) (o : List UInt8) : sumN (L ++ [o]) = sumN L + (wrapL o).length := by
  unfold sumN ntN
  simp
theorem wrapL_2000 (o : List UInt8) (h : o.length ≤ 600) : (wrapL o).length ≤ 2000 := by
  have := encL_len o
  unfold wrapL
  rw [List.length_append]
  simp
  omega
theorem IR.step {w W0 A C : World} {pre : List Bx} {T : TypeId} (h : IR w W0 pre A) (k : StepR W0.heap.size T A C) (hw : w.heap.size + 2 ≤ W0.heap.size) (h1 : 22 ≠ T) (h2 : 5 ≠ T) : IR w W0 pre C := by
  obtain ⟨V, v1, v2, v3, v4⟩ := h.row
  exact ⟨k.below h.top (by omega) h.top.size, Nat.le_trans h.sz k.size, ⟨V, k.blk v1 (.inr (by omega)), k.row v2 h1, Gn.step v3 k h1 h2, v4⟩, k.blk h.sum (.inr (by omega)), h.le⟩
theorem IR.obj {w W0 A : World} {pre : List Bx} {l : Nat} {o o' : Obj} (h : IR w W0 pre A) (hl : A.heap[l]? = some o) (ho : o.isCells = false) (hz : W0.heap.size ≤ l) (hw : w.heap.size + 2 ≤ W0.heap.size) : IR w W0 pre (A.putObj l o') :=
  h.step (T := 72) (StepR.put o' hz hl ho) hw (by decide) (by decide)
end Go.Proofs.YtiogckgchlnldaaGreat

/- Layer 10: the program's Read of notes: the walk. -/
set_option linter.unusedSimpArgs false
set_option linter.unusedVariables false
namespace Go.Proofs.YtiogckgchlnldaaGreat
open Go.RowKit Go.Shelf
set_option maxRecDepth 100000

attribute [local go_sem] Oper.semAt_some

/-- what Read of notes answers -/
def Tr (w : World) (l : List UInt8) (e : Ending) (w' : World) : Prop :=
  ∃ R n cr at_ L, e = .returned (.tuple #[.slice R n cr, .int .i64 (at_ : Nat)]) ∧ Hid (L.length = n ∧ Rd10 l (L.map Bx.b) at_ ∧ Gn w' (.slice R n cr) L ∧ Below w.heap.size w w' ∧ ∀ k, footG vaN (.slice R n cr) L k → w.heap.size ≤ k)

set_option maxHeartbeats 8000000 in
theorem tread_any (A : Option Addr) (c : Nat) (l : List UInt8) (w : World) (hl : Bs w A l) (hA : Fm A c) (hc : l.length ≤ c) (hm : l.length ≤ 200000) :
    Calls Tryz.prog 45 #[.slice A l.length c] w (Tr w l) := by
  have hmx : Tryz.prog.follows .mixedOrders = true := by kernel_rfl
  have hd1 : 1 ≤ 3 - 1 - 1 := by decide
  have HL := Lib.hid (And.intro hl (And.intro hA (And.intro hc hm)))
  obtain ⟨m, hmm⟩ : ∃ m, m = l.length := ⟨_, rfl⟩
  rw [← hmm]
  have Hm := Lib.hid hmm
  clear hl hA hc hm hmm
  refine (callsIn_wide (n := 3)).1 ?_
  refine callsIn_of_wp_marks Tryz.func45 rfl trivial ?_ rfl
  simp only [Tryz.ntmps45, List.size_toArray, List.length_cons, List.length_nil, Nat.reduceAdd, Nat.reduceSub, Array.replicate_succ, Array.replicate_zero, List.push_toArray, List.append_toArray, List.nil_append, List.cons_append]
  gi_wp2_with (refine ⟨trivial, ?_⟩; gi_at_call 64; refine (callsIn_wide.2 (tnotes_any A m c _)).mono ?_; rintro e w1 ⟨rfl, rfl⟩)
  have K := ((((Qs.zero w).box #[.slice none 0 0] 42).box #[.int .i64 0] 3)).box #[.slice A m c] 22
  simp only [World.size_alloc] at K
  generalize hW0 : World.alloc _ _ = W0
  rw [hW0] at K
  have z0 : W0.heap.size = w.heap.size + 1 + 1 + 1 := by rw [← hW0]; simp only [World.size_alloc]
  have HK := Lib.hid K
  clear K hW0
  have hz2 : w.heap.size + 2 ≤ W0.heap.size := by omega
  have n1 : 22 ≠ 72 := by decide
  have n2 : 5 ≠ 72 := by decide
  refine wpIn_rangeR 72 rfl (by omega) (gf := 75) (lb := #[.pointer (some ⟨w.heap.size + 1 + 1, 0, none⟩)]) rfl trivial (enters_of Tryz.func75 (by kernel_rfl) rfl)
    (tnotes_seq 2 (by decide) _ (w.heap.size + 1 + 1) w W0 A c l HL.out.1 HL.out.2.1 HL.out.2.2.1 HL.out.2.2.2 (HK.out.top 3) (by omega) (by have := (HK.out.blk 0).cell 0; rw [Hm.out] at this; exact this)) (fun x A C h => h.1)
    (fun _ _ _ h k => h.trans k) (fun W ll o o' hll ho hc => (Below.refl _ W).grown (grownBy_putObj' W ll o') (by have := (Array.getElem?_eq_some_iff.1 ho).1; omega) (fun k e => by injection e with e; omega)) (HK.out.top 3 |> fun h => Below.refl _ _) (fun _ => rfl)
    (IR w W0) (fun _ _ _ => False)
    (fun pre x a' W => IR w W0 pre W ∧ (OwnB W W0.heap.size (vaN x) x.b ∧ x.b.length ≤ 600) ∧ (∀ t ∈ pre, ∀ k, (vaN t).ownBlock = some k → (vaN x).ownBlock ≠ some k) ∧ a' = { tmps := #[.slice A m c, undef, .slice none 0 0, .int .i64 0, .pointer (some ⟨w.heap.size, 0, none⟩), .pointer (some ⟨w.heap.size + 1, 0, none⟩), vaN x, .int .i64 ((wrapL x.b).length : Nat), .slice A m c, .func (.func 75) #[] #[.pointer (some ⟨w.heap.size + 1 + 1, 0, none⟩)], vaN x, .int .i64 ((wrapL x.b).length : Nat), undef, undef, undef, undef, undef, undef, undef, undef, undef], defers := [] })
    (fun s B C h k => h.step k hz2 n1 n2) (fun cd s B C h k => h)
    ⟨HK.out.top 3, Nat.le_refl _, ⟨_, HK.out.blk 2, OwnR.nil _ _ _ _ _, Gl.nil _ _ _ _ _ _, (fun k hk => by rcases hk with hk | ⟨y, hy, _⟩ <;> simp [Value.ownBlock] at *)⟩, HK.out.blk 1, Nat.zero_le _⟩
    ?hax ?assign ?body ?done ?stop
  case hax =>
    rintro pre x a' W ll o o' hll hl hc ⟨h1, h2, h3, h4⟩
    exact ⟨h1.obj hl hc hll hz2, ⟨(StepR.put (T := 72) o' hll hl hc).row h2.1 n2, h2.2⟩, h3, h4⟩
  case assign =>
    rintro ll pre x W1 W KK hI hzz ⟨hb, ho, ho6⟩ hK
    have hI2 : IR w W0 pre W := hI.step ((StepT.grown (B := W0.heap.size) (T := 72) hb).toR (Nat.le_refl _)) hz2 n1 n2
    obtain ⟨V, v1, v2, v3, v4⟩ := hI.row
    have hd : ∀ t ∈ pre, ∀ k, (vaN t).ownBlock = some k → (vaN x).ownBlock ≠ some k := fun t ht k h1 h2 => by
      have e1 := (World.ownsRow.lt (v3.el t ht) k h1).2
      have e2 := (World.ownsRow.lt ho k h2).1
      omega
    have HK2 := Lib.hid (hK _ W ⟨Nat.le_refl _, fun k o _ h _ => h⟩ (Below.refl _ _) ⟨hI2, ⟨ho.mono hzz, ho6⟩, hd, rfl⟩)
    clear hK hI hI2 v1 v2 v3 v4 hd hb ho
    simp only [encTn]
    gi_wp2
    exact HK2.out
  case body =>
    rintro ll pre x a' W ⟨hI, ho, hd, rfl⟩ hlt
    obtain ⟨XA, xc, xb⟩ := x
    simp only [vaN] at ho ⊢
    obtain ⟨V, v1, v2, v3, v4⟩ := hI.row
    obtain ⟨S, hS⟩ : ∃ S, S = sumN (pre.map Bx.b) := ⟨_, rfl⟩
    obtain ⟨q, hq⟩ : ∃ q, q = (wrapL xb).length := ⟨_, rfl⟩
    have hI4 := hI.sum
    rw [← hS] at hI4
    obtain ⟨xn, hxn⟩ : ∃ xn, xn = xb.length := ⟨_, rfl⟩
    rw [← hq, ← hxn]
    have hln : pre.length < 200001 := by have := HL.out.2.2.2; omega
    have hSq : S + q < 9223372036854775808 := by
      have h1 := hI.le
      have h2 := wrapL_2000 xb ho.2
      rw [← hS] at h1
      rw [← hq] at h2
      omega
    have HB := Lib.hid (And.intro hI (And.intro ho (And.intro hd (And.intro v2 (And.intro v3 (And.intro v4 (And.intro hS (And.intro hq hxn))))))))
    have K := (((Qs.nil W).cons (k := qB _ _ _) hI4).cons (k := qB _ _ _) v1)
    have HK2 := Lib.hid K
    have C := K.says
    simp only [sayAll, cellsSay, qB, Nat.reduceAdd, and_true, true_and] at C
    have hVb : ∀ k, V.ownBlock = some k → w.heap.size ≠ k ∧ w.heap.size + 1 ≠ k := fun k hk => by
      have := (World.ownsRow.lt v2 k hk).1
      omega
    have HVb := Lib.hid hVb
    have h5n : pre.length + 1 ≤ maxLen := by unfold maxLen; omega
    have h6n : (pre.length + 1) * 24 ≤ 140737488355328 := by omega
    have hbs : W0.heap.size ≤ (W.alloc (.cells #[.slice XA xn xc] 22)).heap.size := by have := hI.sz; simp; omega
    clear hI ho hd v1 v2 v3 v4 K hI4 hS hq hVb hlt hxn
    gi_wp2_with (gi_at_builtin; refine appR1F Tryz.eltN _ rfl (.tmp 12) (.tmp 14) rfl W0.heap.size V pre rfl (HB.out.2.2.2.1.alloc _) W.heap.size 1 ⟨XA, xc, xb⟩ 22 _ rfl (Blk.new W _ _) (by rw [HB.out.2.2.2.2.2.2.2.2]; rfl) h5n h6n hbs ?_; intro g2 c2 w2 hown2 hgr2 hb2; have HK3 := Lib.hid (((HK2.out.alloc _).grow hgr2 (fun k e => by obtain ⟨e1, e2⟩ := HVb.out k e; simp only [apAll, qB, and_true]; omega))); have C3 := HK3.out.says; simp only [sayAll, cellsSay, qB, Nat.reduceAdd, and_true, true_and] at C3; have HG := Lib.hid (And.intro hown2 hgr2); clear hgr2 hown2)
    obtain ⟨hI, ho, hd, v2, v3, v4, hS, hq, hxn⟩ := HB.out
    obtain ⟨hown2, hgr2⟩ := HG.out
    obtain ⟨V2, hV2⟩ : ∃ V2, V2 = Value.slice (some ⟨g2, 0, none⟩) (pre.length + 1) c2 := ⟨_, rfl⟩
    obtain ⟨W6, hW6⟩ : ∃ W6, W6 = (w2.setCell ⟨w.heap.size, 0, none⟩ V2).setCell ⟨w.heap.size + 1, 0, none⟩ (.int .i64 ((S + q : Nat) : Int)) := ⟨_, rfl⟩
    have hcast : ((S : Int) + (q : Int)) = ((S + q : Nat) : Int) := by omega
    rw [hcast, ← hV2, ← hW6]
    rw [← hV2] at hown2
    have K5 := (HK3.out.put 0 w.heap.size [(0, V2)] #[V2] (by simp only [apBut, apAll, qB, and_true]; omega)).put 1 (w.heap.size + 1) [(0, .int .i64 ((S + q : Nat) : Int))] #[.int .i64 ((S + q : Nat) : Int)] (by simp only [List.set, apBut, apAll, qB, and_true]; omega)
    have b1 : Blk W6 w.heap.size 42 #[V2] := by rw [hW6]; exact K5.blk 0
    have b2 : Blk W6 (w.heap.size + 1) 3 #[.int .i64 ((S + q : Nat) : Int)] := by rw [hW6]; exact K5.blk 1
    obtain ⟨x, hx⟩ : ∃ x : Bx, x = ⟨XA, xc, xb⟩ := ⟨_, rfl⟩
    rw [← hx] at hown2 hd ⊢
    have hxb : x.b = xb := by rw [hx]
    have ho' : OwnB W W0.heap.size (vaN x) x.b := by rw [hx]; exact ho.1
    have G2 : Gn w2 V2 (pre ++ [x]) := Gn.snocD (v3.below (below_alloc W _)) (hown2.mono (Nat.zero_le _)) hgr2 ((ho'.mono (Nat.zero_le _)).alloc _) hd
    have t0 : Tou (fun k => V.ownBlock = some k) W w2 := (Tou.of_below (below_alloc W _)).trans (Tou.of_grown hgr2 (fun k e => e)) (fun _ _ h => h)
    have tB : Tou (fun k => k = w.heap.size ∨ k = w.heap.size + 1) w2 W6 := by
      rw [hW6]
      exact (Tou.set _ _ _ (.inl rfl)).trans (Tou.set (F := fun k => k = w.heap.size ∨ k = w.heap.size + 1) _ _ _ (.inr rfl)) (fun _ _ h => h)
    have tA : Tou (fun k => V.ownBlock = some k ∨ (k = w.heap.size ∨ k = w.heap.size + 1)) W W6 := (t0.mono (fun k _ h => .inl h)).trans tB (fun _ _ h => .inr h)
    have hrow : OwnR W6 W0.heap.size 22 encBx 1 V2 (pre ++ [x]) := tB.row hown2 (fun k hk e => by
      have := (World.ownsRow.lt hown2 k hk).1
      omega)
    have hlow : ∀ k, (V.ownBlock = some k ∨ (k = w.heap.size ∨ k = w.heap.size + 1)) → w.heap.size ≤ k := fun k hk => by
      rcases hk with hk | hk | hk
      · have := (World.ownsRow.lt v2 k hk).1
        omega
      · omega
      · omega
    refine ⟨keepsT tA (fun k hk => ?_) _, tA.under (Below.refl _ _) hlow hI.top.size, tA.under hI.top hlow hI.top.size, Nat.le_trans hI.sz tA.size, ⟨V2, b1, hrow, ?_, ?_⟩, ?_, ?_⟩
    · rcases hk with hk | rfl | rfl
      · obtain ⟨cs, h⟩ := home_of v2 hk
        exact ⟨_, _, _, h⟩
      · exact ⟨_, _, _, HK2.out.blk 0⟩
      · exact ⟨_, _, _, HK2.out.blk 1⟩
    · rw [hW6]
      have p1 := Gn.put G2 (HK3.out.blk 0) (by decide) (by decide) 0 V2
      have p2 := (HK3.out.put 0 w.heap.size [(0, V2)] #[V2] (by simp only [apBut, apAll, qB, and_true]; omega)).blk 1
      exact Gn.put p1 p2 (by decide) (by decide) 0 _
    · intro k hk
      rcases hk with hk | ⟨y, hy, hk⟩
      · exact (World.ownsRow.lt hrow k hk).1
      · rw [List.mem_append, List.mem_singleton] at hy
        rcases hy with hy | rfl
        · exact v4 k (.inr ⟨y, hy, hk⟩)
        · exact (World.ownsRow.lt ho' k hk).1
    · rw [List.map_append, List.map_cons, List.map_nil, sumN_snoc, ← hS, hxb, ← hq]
      exact b2
    · rw [List.map_append, List.map_cons, List.map_nil, sumN_snoc, hxb, List.length_append]
      have h1 := hI.le
      have h2 := wrapL_2000 xb ho.2
      simp
      omega
  case done =>
    rintro D ys W hD ⟨n, hn⟩ hI hK
    obtain ⟨V, v1, v2, v3, v4⟩ := hI.row
    obtain ⟨S, hS⟩ : ∃ S, S = sumN (ys.map Bx.b) := ⟨_, rfl⟩
    have hI4 := hI.sum
    rw [← hS] at hI4
    have C1 := fbsays v1
    have C2 := fbsays hI4
    simp only [cellsSay, Nat.reduceAdd, and_true] at C1 C2
    have HE := Lib.hid (And.intro hI (And.intro v2 (And.intro v3 (And.intro v4 (And.intro hS (And.intro hn hK))))))
    obtain ⟨R, cr, rfl, hcr, -⟩ := OwnR.row Tryz.eltN v2
    obtain ⟨yn, hyn⟩ : ∃ yn, yn = ys.length := ⟨_, rfl⟩
    rw [← hyn] at C1 HE
    have HY := Lib.hid hyn
    clear hI v1 v2 v3 v4 hI4 hS hn hK hyn
    gi_wp2
    gi_region
    all_goals
      gi_wp2
      obtain ⟨hI, v2, v3, v4, hS, hn, hK⟩ := HE.out
      have hD5 : W.drew.heap[D]? = some (Obj.deferred (some [])) := hK
      refine ⟨by simp, .inl ⟨_, _, rfl, run_takeDeferred hD5, ?_⟩⟩
      refine ⟨.tuple #[.slice R yn cr, .int .i64 (S : Nat)], by simp [results, Tryz.results45, go_sem], R, yn, cr, S, ys, rfl, Lib.hid ⟨HY.out.symm, ?_, Gn.obj (w := W.drew) (v3.below (Below.refl _ _).drew) hD5 rfl, (hI.top.drew).grown (grownBy_putObj' W.drew D _) hI.top.size (fun k e => by injection e with e; omega), fun k hk => Nat.le_trans (by omega) (v4 k hk)⟩⟩
      have h9 := hn.sum
      rw [hS, show sumN (ys.map Bx.b) = n from h9.symm]
      exact hn
  case stop =>
    rintro D cd pre W hD hp h
    exact h.elim

end Go.Proofs.YtiogckgchlnldaaGreat

/- Layer 10: the program's journal: Open. -/
set_option linter.unusedSimpArgs false
set_option linter.unusedVariables false
namespace Go.Proofs.YtiogckgchlnldaaGreat
open Go.RowKit
set_option maxRecDepth 100000

/-- the notes at the front of l, and how many bytes they take -/
noncomputable def rd10 (l : List UInt8) : List (List UInt8) × Nat := Classical.choose (show ∃ p : List (List UInt8) × Nat, Rd10 l p.1 p.2 from by
  obtain ⟨L, n, h, _⟩ := Rd10.ex _ l (Nat.le_refl _)
  exact ⟨(L, n), h⟩)
theorem rd10_ok (l : List UInt8) : Rd10 l (rd10 l).1 (rd10 l).2 := Classical.choose_spec (p := fun p : List (List UInt8) × Nat => Rd10 l p.1 p.2) _
theorem Rd10.eq {l : List UInt8} {L : List (List UInt8)} {n : Nat} (h : Rd10 l L n) : rd10 l = (L, n) := by
  obtain ⟨h1, h2⟩ := h.one (rd10_ok l)
  rw [h1, h2]
def lenOk (n : Nm) : Bool := decide (1 ≤ n.length ∧ n.length ≤ 15)
/-- what Open does to the files, what notes it answers -/
noncomputable def topenD (d : Fd) (n : Nm) : Nat × List (List UInt8) × Fd :=
  if lenOk n = false then (1, [], d) else
  if (createD (removeD d (oth n)).2 n).1 ≠ 0 ∧ (createD (removeD d (oth n)).2 n).1 ≠ 81 then ((createD (removeD d (oth n)).2 n).1, [], (removeD d (oth n)).2) else
  (0, (rd10 ((rdD (createD (removeD d (oth n)).2 n).2 n).getD [])).1,
    if (rd10 ((rdD (createD (removeD d (oth n)).2 n).2 n).getD [])).2 < ((rdD (createD (removeD d (oth n)).2 n).2 n).getD []).length then (cutD (createD (removeD d (oth n)).2 n).2 n ((rd10 ((rdD (createD (removeD d (oth n)).2 n).2 n).getD [])).2 : Nat)).2 else (createD (removeD d (oth n)).2 n).2)
/-- notes that were handed out, as a thing -/
abbrev thN (V : Value) (L : List Bx) : Kt := thG Bx.b vaN 22 encBx 1 V L
def To (B : Nat) (w0 : World) (q room : Nat) (ts : List Kt) (n : Nm) (r : Nat × List (List UInt8) × Fd) (e : Ending) (w' : World) : Prop :=
  (r.1 ≠ 0 ∧ e = .returned (.tuple #[.pointer none, .slice none 0 0, .int .u16 (r.1 : Nat)]) ∧ FsI B w0 w' q room ts r.2.2) ∨
  (r.1 = 0 ∧ ∃ tp R k cr L, e = .returned (.tuple #[.pointer (some ⟨tp, 0, none⟩), .slice R k cr, .int .u16 0]) ∧ L.length = k ∧ L.map Bx.b = r.2.1 ∧ FsI B w0 w' q room (thN (.slice R k cr) L :: thT tp q n :: ts) r.2.2)

theorem ownFm {w : World} {base : Nat} {A : Option Addr} {n c : Nat} {l : List UInt8} (h : OwnB w base (.slice A n c) l) : Fm A c ∧ l.length ≤ c ∧ n = l.length ∧ Bs w A l := by
  rcases h.2 with ⟨hv, h0⟩ | ⟨g, cap, cur, hv, hbg, hgg, hn, hm, hs, ht⟩
  · have : l = [] := List.eq_nil_of_length_eq_zero h0
    subst this
    injection hv with e1 e2 e3
    subst e1; subst e2; subst e3
    exact ⟨.inl rfl, Nat.le_refl _, rfl, Bs.nil _ _⟩
  · have hb := OwnB.isB h
    obtain ⟨A', c', h1, h2, h3, h4⟩ := hb
    injection hv with e1 e2 e3
    injection h1 with f1 f2 f3
    subst e1; subst e3
    subst f1
    exact ⟨.inr ⟨g, 0, rfl⟩, hn, f2, h4⟩
theorem read_opt {B q room : Nat} {w0 w : World} {ts : List Kt} {d : Fd} (n : Nm) (hn : n.length ≤ maxLen) (h : FsI B w0 w q room ts d) :
    Calls Tryz.prog 17 #[.pointer (some ⟨q, 0, none⟩), .string ⟨n.toArray⟩] w fun e w' => ∃ A k c x, e = .returned (.tuple #[.slice A k c, .int .u16 x]) ∧ Hid (k = ((rdD d n).getD []).length ∧ OwnB w' w.heap.size (.slice A k c) ((rdD d n).getD []) ∧ Below w.heap.size w w') := by
  cases hr : rdD d n with
  | none =>
    have hat : atF d.F n = none := by
      unfold rdD at hr
      exact Option.map_eq_none_iff.1 hr
    refine (read_none n hn h hat).mono ?_
    rintro e w' ⟨rfl, rfl⟩
    exact ⟨_, _, _, _, rfl, Lib.hid ⟨rfl, OwnB.nil _ _, Below.refl _ _⟩⟩
  | some b =>
    refine (read_some n hn h b hr).mono ?_
    rintro e w' ⟨A, c, rfl, h1⟩
    exact ⟨_, _, _, _, rfl, Lib.hid ⟨rfl, h1.out.1, h1.out.2⟩⟩
theorem rd_len {d : Fd} {T : List Ft} (h : Fi d T) (n : Nm) : ((rdD d n).getD []).length ≤ 200000 := by
  cases hr : rdD d n with
  | none => simp
  | some b =>
    cases hat : atF d.F n with
    | none =>
      unfold rdD at hr
      rw [hat] at hr
      cases hr
    | some x =>
      obtain ⟨i, t, hi, hf, htn, -⟩ := h.there hat
      have := h.rd hf
      rw [hr] at this
      injection this with this
      subst this
      exact h.blen (List.mem_of_getElem? hi)

set_option maxHeartbeats 16000000 in
theorem topen_any {B q room : Nat} {w0 w : World} {ts : List Kt} {d : Fd} (n : Nm) (h : FsI B w0 w q room ts d) (hn : n.length ≤ 1000000) (hlf : d.lf ≤ 1000000) :
    Calls Tryz.prog 15 #[.pointer (some ⟨q, 0, none⟩), .string ⟨n.toArray⟩] w (To B w0 q room ts n (topenD d n)) := by
  have hmx : Tryz.prog.follows .mixedOrders = true := by kernel_rfl
  have hnn : n.length ≤ maxLen := by unfold maxLen; omega
  obtain ⟨D9, hD9⟩ : ∃ D9, D9 = topenD d n := ⟨_, rfl⟩
  rw [← hD9]
  by_cases hok : lenOk n = true
  · have hnl : 1 ≤ n.length ∧ n.length ≤ 15 := of_decide_eq_true hok
    have hon : (oth n).length ≤ maxLen := by unfold oth maxLen; simp; omega
    have d1 : decide ((n.length : Int) < 1) = false := decide_eq_false (by omega)
    have d2 : decide ((16 : Int) ≤ (n.length : Int)) = false := decide_eq_false (by omega)
    obtain ⟨tp, htp⟩ : ∃ tp, tp = w.heap.size := ⟨_, rfl⟩
    obtain ⟨W1, hW1⟩ : ∃ W1, W1 = w.alloc (.cells (tpc q n) 92) := ⟨_, rfl⟩
    have h1 : FsI B w0 W1 q room (thT tp q n :: ts) d := by
      rw [hW1, htp]
      exact h.cons (below_alloc w _) (Blk.new w _ _) (fun k e => by subst e; exact Nat.le_refl _)
    have hp := plus_cell W1
    have bT : Blk W1 tp 92 (tpc q n) := h1.get 0 rfl
    have C := fbsays bT
    simp only [cellsSay, tpc, Nat.reduceAdd, and_true] at C
    have HOx := Lib.hid (fun (x : More) => ext_of (v := .string ⟨(oth n).toArray⟩) ((other_any tp q n _ (show Blk (plus W1 x) tp 92 (tpc q n) from (h1.go (plus_below W1 x)).get 0 rfl) (by omega)).mono (fun e w' he => ⟨he.1, by rw [he.2]; exact Below.refl _ _⟩)))
    have HS := Lib.hid (fun (x : More) => remove_any (oth n) hon (h1.go (plus_below W1 x)) hlf)
    have e1 := (lp_remove d (oth n)).1
    have hD := hD9
    unfold topenD at hD
    rw [if_neg (by rw [hok]; decide)] at hD
    obtain ⟨D1, hD1⟩ : ∃ D1, D1 = removeD d (oth n) := ⟨_, rfl⟩
    rw [← hD1] at HS e1 hD
    have HC := Lib.hid (fun (W : World) (hs : FsI B w0 W q room (thT tp q n :: ts) D1.2) => create_any n hnn hs (by omega))
    have e2 := (lp_create D1.2 n).1
    have hce := create_err (d := D1.2) (n := n)
    have hk2 := create_k D1.2 n
    obtain ⟨D2, hD2⟩ : ∃ D2, D2 = createD D1.2 n := ⟨_, rfl⟩
    rw [← hD2] at HC e2 hD hce hk2
    have HG := Lib.hid (And.intro hD (And.intro (show D2.2.lf ≤ 1000000 by omega) (And.intro (show (thT tp q n) ∈ (thT tp q n :: ts) from List.mem_cons_self) hce)))
    clear hD hD9 hD1 hD2 e1 e2 h1 bT hok hlf h hnl hce
    go_enter Tryz.func15, Tryz.ntmps15
    go_upto_region 4 with fail
    rw [show w.alloc (.cells #[.pointer (some ⟨q, 0, none⟩), .string ⟨n.toArray⟩] 92) = W1 from hW1.symm, ← htp]
    clear hW1 htp
    refine wp_region_tail_ext 6 (by kernel_rfl) (by kernel_rfl) ?_
    simp only [List.take_succ_cons, List.take_zero, List.drop_succ_cons, List.drop_zero]
    repeat (go_big_quiet_step ((go_at_call 44; exact HOx.out _)))
    refine wpQuiet_nil ?_
    rintro w2 ⟨x, rfl⟩
    have HC1 := Lib.hid (HS.out x)
    clear HS HOx hp C
    go_wp2_with fail
    refine HC1.out.mono ?_
    rintro e w3 ⟨rfl, h3⟩
    have b3 : Blk w3 tp 92 (tpc q n) := h3.get 0 rfl
    have C := fbsays b3
    simp only [cellsSay, tpc, Nat.reduceAdd, and_true] at C
    have HC2 := Lib.hid (HC.out _ h3)
    clear h3 HC1 HC b3
    go_wp2_with fail
    refine HC2.out.mono ?_
    rintro e w4 ⟨rfl, h4⟩
    have b4 : Blk w4 tp 92 (tpc q n) := h4.get 0 rfl
    replace C := fbsays b4
    simp only [cellsSay, tpc, Nat.reduceAdd, and_true] at C
    have H4 := Lib.hid h4
    clear h4 HC2 b4
    by_cases hz : D2.1 ≠ 0 ∧ D2.1 ≠ 81
    · have kc : ((D2.1 : Int) == 0) = false := beq_eq_false_iff_ne.2 (by omega)
      have kd : ((D2.1 : Int) != 0) = true := by unfold bne; rw [kc]; rfl
      have k8 : ((D2.1 : Int) == 81) = false := beq_eq_false_iff_ne.2 (by omega)
      have k9 : ((D2.1 : Int) != 81) = true := by unfold bne; rw [k8]; rfl
      have HEND : Hid (To B w0 q room ts n D9 (.returned (.tuple #[.pointer none, .slice none 0 0, .int .u16 (D2.1 : Nat)])) w4) := Lib.hid (.inl (by
        rw [HG.out.1, if_pos hz]
        refine ⟨hz.1, rfl, ?_⟩
        have h9 := H4.out.tail
        rw [HG.out.2.2.2 hz.1] at h9
        exact h9))
      clear hz
      go_wp2_with fail
      go_ret3
      exact HEND.out
    · have HD : Hid (D9 = (0, (rd10 ((rdD D2.2 n).getD [])).1, if (rd10 ((rdD D2.2 n).getD [])).2 < ((rdD D2.2 n).getD []).length then (cutD D2.2 n ((rd10 ((rdD D2.2 n).getD [])).2 : Nat)).2 else D2.2)) := Lib.hid (by rw [HG.out.1, if_neg hz])
      have HR := Lib.hid (read_opt n hnn H4.out)
      obtain ⟨b, hb⟩ : ∃ b, b = (rdD D2.2 n).getD [] := ⟨_, rfl⟩
      rw [← hb] at HR HD
      have hbl : b.length ≤ 200000 := by
        obtain ⟨T, hi⟩ := H4.out.fi
        rw [hb]
        exact rd_len hi n
      have HB := Lib.hid hbl
      clear hb hbl
      have hzz : D2.1 = 0 ∨ D2.1 = 81 := by omega
      clear hz
      rcases hzz with hz | hz
      all_goals
        rw [hz]
        clear hz
        go_wp2_with fail
        refine HR.out.mono ?_
        rintro e w5 ⟨A, k, c, x9, rfl, h5⟩
        obtain ⟨hk, ho, b5⟩ := h5.out
        obtain ⟨hFm, hcc, -, hbs⟩ := ownFm ho
        have HT := Lib.hid (tread_any A c b w5 hbs hFm hcc HB.out)
        rw [← hk] at HT
        have H5 := Lib.hid (And.intro (H4.out.go b5) hk)
        have b6 : Blk w5 tp 92 (tpc q n) := H5.out.1.get 0 rfl
        replace C := fbsays b6
        simp only [cellsSay, tpc, Nat.reduceAdd, and_true] at C
        clear hk ho b5 hFm hcc hbs h5 HR b6
        go_wp2_with fail
        refine HT.out.mono ?_
        rintro e w6 ⟨R, m, cr, at_, L, rfl, h6⟩
        obtain ⟨g1, g2, g3, g4, g5⟩ := h6.out
        have h7 : FsI B w0 w6 q room (thN (.slice R m cr) L :: thT tp q n :: ts) D2.2 := H5.out.1.cons g4 g3 g5
        have hle := g2.le.1
        have hre := g2.eq
        rw [hre] at HD
        have b7 : Blk w6 tp 92 (tpc q n) := h7.get 1 rfl
        replace C := fbsays b7
        simp only [cellsSay, tpc, Nat.reduceAdd, and_true] at C
        have H7 := Lib.hid (And.intro h7 g1)
        clear g1 g2 g3 g4 g5 h7 hre h6 HT b7
        rw [← H5.out.2] at HD hle
        by_cases hlt : at_ < k
        · have hl2 : (at_ : Int) < (k : Int) := by omega
          have hl3 : decide (at_ < k) = true := decide_eq_true hlt
          have HCu := Lib.hid (cut_any n at_ hnn H7.out.1 HG.out.2.1)
          obtain ⟨D5, hD5⟩ : ∃ D5, D5 = cutD D2.2 n at_ := ⟨_, rfl⟩
          rw [← hD5] at HCu HD
          have HD6 : Hid (D9 = (0, L.map Bx.b, D5.2)) := Lib.hid (by rw [HD.out, if_pos hlt])
          clear HD hD5 hlt hle
          go_wp2_with fail
          refine HCu.out.mono ?_
          rintro e w8 ⟨rfl, h8⟩
          have H8 : Hid (To B w0 q room ts n D9 (.returned (.tuple #[.pointer (some ⟨tp, 0, none⟩), .slice R m cr, .int .u16 0])) w8) := Lib.hid (.inr (by rw [HD6.out]; exact ⟨rfl, tp, R, m, cr, L, rfl, H7.out.2, rfl, h8⟩))
          clear h8 HCu
          go_wp2_with fail
          go_ret3
          exact H8.out
        · have hl2 : ¬ (at_ : Int) < (k : Int) := by omega
          have hl3 : decide (at_ < k) = false := decide_eq_false hlt
          have H8 : Hid (To B w0 q room ts n D9 (.returned (.tuple #[.pointer (some ⟨tp, 0, none⟩), .slice R m cr, .int .u16 0])) w6) := Lib.hid (.inr (by rw [HD.out, if_neg hlt]; exact ⟨rfl, tp, R, m, cr, L, rfl, H7.out.2, rfl, H7.out.1⟩))
          clear HD hlt hle
          go_wp2_with fail
          go_ret3
          exact H8.out
  · have d0 : lenOk n = false := by simpa using hok
    have HE : Hid (D9 = (1, [], d)) := Lib.hid (by rw [hD9, topenD, if_pos d0])
    have hnl : ¬ (1 ≤ n.length ∧ n.length ≤ 15) := of_decide_eq_false d0
    have HI := Lib.hid h
    have HEND : Hid (To B w0 q room ts n D9 (.returned (.tuple #[.pointer none, .slice none 0 0, .int .u16 1])) w) := Lib.hid (.inl (by rw [HE.out]; exact ⟨by show (1 : Nat) ≠ 0; decide, rfl, h⟩))
    clear hD9 hok d0 h
    by_cases h1 : n.length < 1
    · have d1 : decide ((n.length : Int) < 1) = true := decide_eq_true (by omega)
      clear h1 hnl
      go_enter Tryz.func15, Tryz.ntmps15
      go_wp2_with fail
      go_ret3
      exact HEND.out
    · have d1 : decide ((n.length : Int) < 1) = false := decide_eq_false (by omega)
      have d2 : decide ((16 : Int) ≤ (n.length : Int)) = true := decide_eq_true (by omega)
      clear h1 hnl
      go_enter Tryz.func15, Tryz.ntmps15
      go_wp2_with fail
      go_ret3
      exact HEND.out

end Go.Proofs.YtiogckgchlnldaaGreat

/- Layer 10: one journal's file, whatever happens to the others: mathematics. -/
set_option linter.unusedSimpArgs false
set_option linter.unusedVariables false
namespace Go.Proofs.YtiogckgchlnldaaGreat
set_option maxRecDepth 100000

abbrev Fl := List (Nm × List UInt8)
/-- the pieces of a file -/
def psOf (P : Fl) (n : Nm) : List (List UInt8) := (P.filter fun p => p.1 == n).map (·.2)
theorem pcs_psOf (P : Fl) (n : Nm) : pcs P n = (psOf P n).flatten := by
  unfold pcs psOf
  rw [List.flatMap_def]
theorem psOf_snoc_same (P : Fl) (n : Nm) (b : List UInt8) : psOf (P ++ [(n, b)]) n = psOf P n ++ [b] := by
  unfold psOf
  rw [List.filter_append, List.map_append]
  simp
theorem psOf_snoc_ne {n m : Nm} (h : m ≠ n) (P : Fl) (b : List UInt8) : psOf (P ++ [(m, b)]) n = psOf P n := by
  unfold psOf
  rw [List.filter_append, List.map_append]
  simp [h]
theorem psOf_drop_same (P : Fl) (n : Nm) : psOf (dropN n P) n = [] := by
  unfold psOf dropN
  rw [List.filter_filter]
  have : (P.filter fun a => a.1 == n && !(a.1 == n)) = [] := by
    rw [List.filter_eq_nil_iff]
    intro a _
    cases a.1 == n <;> simp
  rw [this]
  rfl
theorem psOf_drop_ne {n m : Nm} (h : m ≠ n) (P : Fl) : psOf (dropN m P) n = psOf P n := by
  unfold psOf dropN
  rw [List.filter_filter]
  congr 1
  apply List.filter_congr
  intro a _
  by_cases e : a.1 = n
  · subst e
    simp [Ne.symm h]
  · simp [e]
theorem psOf_ren {n m : Nm} (h : n ≠ m) (P : Fl) : psOf ((dropN m P).map fun p => if p.1 == n then (m, p.2) else p) m = psOf P n := by
  unfold psOf dropN
  induction P with
  | nil => rfl
  | cons p P ih =>
    by_cases e : p.1 = m
    · rw [List.filter_cons_of_neg (by simp [e]), ih, List.filter_cons_of_neg (by simp [e, Ne.symm h])]
    · rw [List.filter_cons_of_pos (by simp [e]), List.map_cons]
      by_cases e2 : p.1 = n
      · rw [if_pos (by simp [e2]), List.filter_cons_of_pos (by simp), List.map_cons, ih, List.filter_cons_of_pos (by simp [e2]), List.map_cons]
      · rw [if_neg (by simp [e2]), List.filter_cons_of_neg (by simp [e]), ih, List.filter_cons_of_neg (by simp [e2])]
theorem at_ins_ne {F : Fl} (hu : upN F) {x j : Nm} {b : List UInt8} (hx : x ≠ j) (hn : ∀ f ∈ F, f.1 ≠ x) : atF (insF (x, b) F) j = atF F j := by
  have hu2 := insF_up (f := (x, b)) hu hn
  cases h : atF F j with
  | none =>
    rw [atF_none] at h ⊢
    intro f hf
    rcases mem_insF.1 hf with rfl | hf
    · exact hx
    · exact h f hf
  | some c =>
    rw [atF_some hu] at h
    rw [atF_some hu2]
    exact mem_insF.2 (.inr h)
theorem at_ins_same {F : Fl} (hu : upN F) {x : Nm} {b : List UInt8} (hn : ∀ f ∈ F, f.1 ≠ x) : atF (insF (x, b) F) x = some b := by
  rw [atF_some (insF_up hu hn)]
  exact mem_insF.2 (.inl rfl)
theorem at_drop_ne {F : Fl} (hu : upN F) {x j : Nm} (hx : x ≠ j) : atF (dropN x F) j = atF F j := by
  cases h : atF F j with
  | none =>
    rw [atF_none] at h ⊢
    intro f hf
    exact h f (List.mem_filter.1 hf).1
  | some c =>
    rw [atF_some hu] at h
    rw [atF_some (hu.drop x)]
    exact List.mem_filter.2 ⟨h, by simp [Ne.symm hx]⟩
theorem at_drop_same (F : Fl) (x : Nm) : atF (dropN x F) x = none := by
  rw [atF_none]
  intro f hf
  have := (List.mem_filter.1 hf).2
  simpa using this
theorem at_set_ne {F : Fl} (hu : upN F) {x j : Nm} {b : List UInt8} (hx : x ≠ j) : atF (setF x b F) j = atF F j := by
  have hu2 := hu.set x b
  cases h : atF F j with
  | none =>
    rw [atF_none] at h ⊢
    intro f hf
    obtain ⟨g, hg, rfl⟩ := List.mem_map.1 hf
    split
    · exact hx
    · exact h g hg
  | some c =>
    rw [atF_some hu] at h
    rw [atF_some hu2]
    exact List.mem_map.2 ⟨_, h, by simp [Ne.symm hx]⟩
theorem at_set_same {F : Fl} (hu : upN F) {x : Nm} {b c : List UInt8} (h : atF F x = some c) : atF (setF x b F) x = some b := by
  rw [atF_some hu] at h
  rw [atF_some (hu.set x b)]
  exact List.mem_map.2 ⟨_, h, by simp⟩
theorem at_none_all {F : Fl} {x : Nm} (h : atF F x = none) : ∀ f ∈ F, f.1 ≠ x := atF_none.1 h

/-- file j has a, and behind it the pieces Q -/
structure Kf (j : Nm) (a : List UInt8) (Q : List (List UInt8)) (d : Fd) : Prop where
  at_ : atF d.F j = some a
  ps : psOf d.P j = Q
  up : upN d.F
  pn : ∀ p ∈ d.P, (atF d.F p.1).isSome
/-- where a call was lost, none is left -/
def Hlt (d : Fd) : Prop := d.dd = true → d.st = true ∧ d.lf = 0
theorem runs_cases (d : Fd) (h : Hlt d) : Hlt (runsD d).2 ∧ (runsD d).2.F = d.F ∧ (runsD d).2.P = d.P ∧ ((runsD d).1 = true ∧ d.dd = false ∧ (runsD d).2.dd = false ∨ (runsD d).1 = false ∧ (runsD d).2.dd = true) := by
  unfold runsD
  have hd : d.dd = true ∨ d.dd = false := by cases d.dd <;> simp
  by_cases h1 : d.st = false
  · rw [if_pos h1]
    refine ⟨h, rfl, rfl, .inl ⟨rfl, ?_⟩⟩
    rcases hd with hd | hd
    · have := (h hd).1
      rw [h1] at this
      cases this
    · exact ⟨hd, hd⟩
  · rw [if_neg h1]
    by_cases h2 : 0 < d.lf
    · rw [if_pos h2]
      have hd2 : d.dd = false := by
        rcases hd with hd | hd
        · have := (h hd).2
          omega
        · exact hd
      exact ⟨fun e => (by rw [hd2] at e; cases e), rfl, rfl, .inl ⟨rfl, hd2, hd2⟩⟩
    · rw [if_neg h2]
      exact ⟨fun _ => ⟨by cases h : d.st <;> simp_all, by show d.lf = 0; omega⟩, rfl, rfl, .inr ⟨rfl, rfl⟩⟩
section
variable {j o x : Nm} {a : List UInt8} {Q : List (List UInt8)} {d : Fd}
theorem Kf.same {d' : Fd} (h : Kf j a Q d) (hF : d'.F = d.F) (hP : d'.P = d.P) : Kf j a Q d' := ⟨by rw [hF]; exact h.at_, by rw [hP]; exact h.ps, by rw [hF]; exact h.up, by rw [hF, hP]; exact h.pn⟩
/-- what a call does, if it is carried out -/
theorem Kf.carry {f : Fd → Fd} (hl : Hlt d) {R : Fd → Prop} (hf : ∀ e : Fd, e.F = d.F → e.P = d.P → (f e).dd = e.dd ∧ (f e).st = e.st ∧ (f e).lf = e.lf) (h0 : ∀ e : Fd, e.F = d.F → e.P = d.P → e.dd = true → R e) (h1 : ∀ e : Fd, e.F = d.F → e.P = d.P → e.dd = false → d.dd = false → R (f e)) : R (if (runsD d).1 = true then f (runsD d).2 else (runsD d).2) ∧ Hlt (if (runsD d).1 = true then f (runsD d).2 else (runsD d).2) := by
  obtain ⟨r1, r2, r3, r4⟩ := runs_cases d hl
  rcases r4 with ⟨r4, r5, r6⟩ | ⟨r4, r5⟩
  · rw [if_pos r4]
    obtain ⟨e1, e2, e3⟩ := hf (runsD d).2 r2 r3
    exact ⟨h1 _ r2 r3 r6 r5, fun e => (by rw [e1, r6] at e; cases e)⟩
  · rw [if_neg (by rw [r4]; decide)]
    exact ⟨h0 _ r2 r3 r5, r1⟩
/-- another file is made -/
theorem Kf.create (h : Kf j a Q d) (hl : Hlt d) (hx : x ≠ j) : Kf j a Q (createD d x).2 ∧ Hlt (createD d x).2 ∧ ((createD d x).1 = 0 → (createD d x).2.dd = false → d.dd = false ∧ atF (createD d x).2.F x = some [] ∧ psOf (createD d x).2.P x = []) := by
  unfold createD
  split
  · exact ⟨h, hl, fun e => by cases e⟩
  · split
    · exact ⟨h, hl, fun e => by cases e⟩
    · rename_i hn
      have hn : atF d.F x = none := by simpa using hn
      have hall := at_none_all hn
      split
      · exact ⟨h, hl, fun e => by cases e⟩
      · have := Kf.carry (d := d) (f := fun e => { e with F := insF (x, []) e.F }) hl (R := fun e => Kf j a Q e ∧ (e.dd = false → d.dd = false ∧ atF e.F x = some [] ∧ psOf e.P x = [])) (fun e _ _ => ⟨rfl, rfl, rfl⟩)
          (fun e hF hP hd => ⟨h.same hF hP, fun e2 => by rw [hd] at e2; cases e2⟩) (fun e hF hP _ hd => by
            refine ⟨⟨?_, by show psOf e.P j = Q; rw [hP]; exact h.ps, ?_, ?_⟩, fun _ => ⟨hd, ?_, ?_⟩⟩
            · show atF (insF (x, []) e.F) j = some a
              rw [hF, at_ins_ne h.up hx hall]
              exact h.at_
            · show upN (insF (x, []) e.F)
              rw [hF]
              exact insF_up h.up hall
            · intro p hp
              show (atF (insF (x, []) e.F) p.1).isSome
              have hp2 := h.pn p (by rw [← hP]; exact hp)
              rw [hF]
              by_cases e1 : x = p.1
              · rw [← e1, at_ins_same h.up hall]; rfl
              · rw [at_ins_ne h.up e1 hall]; exact hp2
            · show atF (insF (x, []) e.F) x = some []
              rw [hF]
              exact at_ins_same h.up hall
            · show psOf e.P x = []
              rw [hP]
              unfold psOf
              rw [List.map_eq_nil_iff, List.filter_eq_nil_iff]
              intro p hp e1
              have := h.pn p hp
              rw [show p.1 = x by simpa using e1, hn] at this
              cases this)
        exact ⟨this.1.1, this.2, fun _ hd => this.1.2 hd⟩
/-- another file is removed -/
theorem Kf.remove (h : Kf j a Q d) (hl : Hlt d) (hx : x ≠ j) : Kf j a Q (removeD d x).2 ∧ Hlt (removeD d x).2 := by
  unfold removeD
  split
  · exact ⟨h, hl⟩
  · exact Kf.carry (d := d) (f := fun e => { e with F := dropN x e.F, P := dropN x e.P }) hl (R := Kf j a Q) (fun e _ _ => ⟨rfl, rfl, rfl⟩) (fun e hF hP _ => h.same hF hP) (fun e hF hP _ _ => by
      refine ⟨?_, ?_, ?_, ?_⟩
      · show atF (dropN x e.F) j = some a
        rw [hF, at_drop_ne h.up hx]
        exact h.at_
      · show psOf (dropN x e.P) j = Q
        rw [hP, psOf_drop_ne hx]
        exact h.ps
      · show upN (dropN x e.F)
        rw [hF]
        exact h.up.drop x
      · intro p hp
        show (atF (dropN x e.F) p.1).isSome
        have hp1 : p ∈ dropN x e.P := hp
        rw [hP] at hp1
        obtain ⟨h1, h2⟩ := List.mem_filter.1 hp1
        have h3 : x ≠ p.1 := fun e1 => by rw [← e1] at h2; simp at h2
        rw [hF, at_drop_ne h.up h3]
        exact h.pn p h1)
/-- something is appended to another file -/
theorem Kf.append (h : Kf j a Q d) (hl : Hlt d) (hx : x ≠ j) (room : Int) (b : List UInt8) (hb : b ≠ []) : Kf j a Q (appendD room d x b).2 ∧ Hlt (appendD room d x b).2 ∧ ((appendD room d x b).1 = 0 → (appendD room d x b).2.dd = false → d.dd = false ∧ atF (appendD room d x b).2.F x = atF d.F x ∧ psOf (appendD room d x b).2.P x = psOf d.P x ++ [b]) := by
  unfold appendD
  split
  · exact ⟨h, hl, fun e => by cases e⟩
  · rename_i hn
    split
    · exact ⟨h, hl, fun e => by cases e⟩
    · skip
      have := Kf.carry (d := d) (f := fun e => { e with P := e.P ++ [(x, b)] }) hl (R := fun e => Kf j a Q e ∧ (e.dd = false → d.dd = false ∧ atF e.F x = atF d.F x ∧ psOf e.P x = psOf d.P x ++ [b])) (fun e _ _ => ⟨rfl, rfl, rfl⟩)
        (fun e hF hP hd => ⟨h.same hF hP, fun e2 => by rw [hd] at e2; cases e2⟩) (fun e hF hP _ hd => by
          refine ⟨⟨?_, ?_, ?_, ?_⟩, fun _ => ⟨hd, ?_, ?_⟩⟩
          · show atF e.F j = some a
            rw [hF]; exact h.at_
          · show psOf (e.P ++ [(x, b)]) j = Q
            rw [hP, psOf_snoc_ne hx]
            exact h.ps
          · show upN e.F
            rw [hF]; exact h.up
          · intro p hp
            show (atF e.F p.1).isSome
            rw [hF]
            have hp : p ∈ e.P ++ [(x, b)] := hp
            rw [hP, List.mem_append, List.mem_singleton] at hp
            rcases hp with hp | rfl
            · exact h.pn p hp
            · cases h9 : atF d.F x with
              | none => rw [h9] at hn; exact absurd rfl hn
              | some _ => rfl
          · show atF e.F x = atF d.F x
            rw [hF]
          · show psOf (e.P ++ [(x, b)]) x = _
            rw [hP, psOf_snoc_same])
      exact ⟨this.1.1, this.2, fun _ hd => this.1.2 hd⟩
theorem at_some_of {F : Fl} {P : Fl} {x : Nm} {b : List UInt8} (h : (atF F x).map (· ++ pcs P x) = some b) : ∃ c, atF F x = some c ∧ b = c ++ pcs P x := by
  cases h9 : atF F x with
  | none => rw [h9] at h; cases h
  | some c => rw [h9] at h; injection h with h; exact ⟨c, rfl, h.symm⟩
/-- another file is synced -/
theorem Kf.sync (h : Kf j a Q d) (hl : Hlt d) (hx : x ≠ j) : Kf j a Q (syncD d x).2 ∧ Hlt (syncD d x).2 ∧ ((syncD d x).1 = 0 → (syncD d x).2.dd = false → d.dd = false ∧ atF (syncD d x).2.F x = (atF d.F x).map (· ++ (psOf d.P x).flatten) ∧ psOf (syncD d x).2.P x = []) := by
  unfold syncD
  cases hr : rdD d x with
  | none => exact ⟨h, hl, fun e => by cases e⟩
  | some b =>
    obtain ⟨c, hc, hb⟩ := at_some_of hr
    have := Kf.carry (d := d) (f := fun e => { e with F := setF x b e.F, P := dropN x e.P }) hl (R := fun e => Kf j a Q e ∧ (e.dd = false → d.dd = false ∧ atF e.F x = (atF d.F x).map (· ++ (psOf d.P x).flatten) ∧ psOf e.P x = [])) (fun e _ _ => ⟨rfl, rfl, rfl⟩)
      (fun e hF hP hd => ⟨h.same hF hP, fun e2 => by rw [hd] at e2; cases e2⟩) (fun e hF hP _ hd => by
        refine ⟨⟨?_, ?_, ?_, ?_⟩, fun _ => ⟨hd, ?_, ?_⟩⟩
        · show atF (setF x b e.F) j = some a
          rw [hF, at_set_ne h.up hx]; exact h.at_
        · show psOf (dropN x e.P) j = Q
          rw [hP, psOf_drop_ne hx]; exact h.ps
        · show upN (setF x b e.F)
          rw [hF]; exact h.up.set x b
        · intro p hp
          show (atF (setF x b e.F) p.1).isSome
          have hp1 : p ∈ dropN x e.P := hp
          rw [hP] at hp1
          obtain ⟨h1, h2⟩ := List.mem_filter.1 hp1
          have h3 : x ≠ p.1 := fun e1 => by rw [← e1] at h2; simp at h2
          rw [hF, at_set_ne h.up h3]
          exact h.pn p h1
        · show atF (setF x b e.F) x = _
          rw [hF, at_set_same h.up hc, hc, hb, pcs_psOf]
          rfl
        · show psOf (dropN x e.P) x = []
          rw [hP, psOf_drop_same])
    exact ⟨this.1.1, this.2, fun _ hd => this.1.2 hd⟩
/-- another file gets the name -/
theorem Kf.rename (h : Kf j a Q d) (hl : Hlt d) (hx : x ≠ j) : Hlt (renameD d x j).2 ∧ (Kf j a Q (renameD d x j).2 ∧ ((renameD d x j).1 ≠ 0 ∨ (renameD d x j).2.dd = true) ∨ (renameD d x j).1 = 0 ∧ (renameD d x j).2.dd = false ∧ d.dd = false ∧ ∃ c, atF d.F x = some c ∧ Kf j c (psOf d.P x) (renameD d x j).2) := by
  unfold renameD
  cases hr : atF d.F x with
  | none => exact ⟨hl, .inl ⟨h, .inl (by show (80 : Nat) ≠ 0; decide)⟩⟩
  | some c =>
    show Hlt (if okN j = false then (1, d) else if x = j then (0, d) else _).2 ∧ _
    by_cases hk : okN j = false
    · simp only [hk, if_true]
      exact ⟨hl, .inl ⟨h, .inl (by show (1 : Nat) ≠ 0; decide)⟩⟩
    · simp only [hk, hx, if_false]
      have := Kf.carry (d := d) (f := fun e => { e with F := insF (j, c) (dropN x (dropN j e.F)), P := (dropN j e.P).map fun p => if p.1 == x then (j, p.2) else p }) hl
        (R := fun e => Kf j a Q e ∧ e.dd = true ∨ e.dd = false ∧ d.dd = false ∧ Kf j c (psOf d.P x) e) (fun e _ _ => ⟨rfl, rfl, rfl⟩)
        (fun e hF hP hd => .inl ⟨h.same hF hP, hd⟩) (fun e hF hP he hd => .inr ⟨he, hd, by
          have hu : upN (dropN x (dropN j d.F)) := (h.up.drop j).drop x
          have hnj : ∀ f ∈ dropN x (dropN j d.F), f.1 ≠ j := fun f hf => by
            have h1 := (List.mem_filter.1 hf).1
            have h2 := (List.mem_filter.1 h1).2
            simpa using h2
          refine ⟨?_, ?_, ?_, ?_⟩
          · show atF (insF (j, c) (dropN x (dropN j e.F))) j = some c
            rw [hF, at_ins_same hu hnj]
          · show psOf ((dropN j e.P).map fun p => if p.1 == x then (j, p.2) else p) j = psOf d.P x
            rw [hP, psOf_ren hx]
          · show upN (insF (j, c) (dropN x (dropN j e.F)))
            rw [hF]
            exact insF_up hu hnj
          · intro p hp
            show (atF (insF (j, c) (dropN x (dropN j e.F))) p.1).isSome
            rw [hF]
            have hp : p ∈ (dropN j e.P).map fun p => if p.1 == x then (j, p.2) else p := hp
            rw [hP] at hp
            obtain ⟨p0, hp0, rfl⟩ := List.mem_map.1 hp
            obtain ⟨h1, h2⟩ := List.mem_filter.1 hp0
            split
            · rw [at_ins_same hu hnj]; rfl
            · rename_i h3
              have h4 : j ≠ p0.1 := fun e1 => by rw [← e1] at h2; simp at h2
              have h5 : x ≠ p0.1 := fun e1 => h3 (by rw [← e1]; simp)
              rw [at_ins_ne hu h4 hnj, at_drop_ne (h.up.drop j) h5, at_drop_ne h.up h4]
              exact h.pn p0 h1⟩)
      refine ⟨this.2, ?_⟩
      rcases this.1 with ⟨h1, h2⟩ | ⟨h1, h2, h3⟩
      · exact .inl ⟨h1, .inr h2⟩
      · exact .inr ⟨rfl, h1, h2, c, rfl, h3⟩
/-- something is appended to the file itself -/
theorem Kf.append_self (h : Kf j a Q d) (hl : Hlt d) (room : Int) (b : List UInt8) (hb : b ≠ []) : Hlt (appendD room d j b).2 ∧ (Kf j a Q (appendD room d j b).2 ∧ ((appendD room d j b).1 ≠ 0 ∨ (appendD room d j b).2.dd = true) ∨ (appendD room d j b).1 = 0 ∧ (appendD room d j b).2.dd = false ∧ d.dd = false ∧ Kf j a (Q ++ [b]) (appendD room d j b).2) := by
  unfold appendD
  rw [h.at_, if_neg (by simp)]
  split
  · exact ⟨hl, .inl ⟨h, .inl (by show (82 : Nat) ≠ 0; decide)⟩⟩
  · skip
    have := Kf.carry (d := d) (f := fun e => { e with P := e.P ++ [(j, b)] }) hl (R := fun e => Kf j a Q e ∧ e.dd = true ∨ e.dd = false ∧ d.dd = false ∧ Kf j a (Q ++ [b]) e) (fun e _ _ => ⟨rfl, rfl, rfl⟩)
      (fun e hF hP hd => .inl ⟨h.same hF hP, hd⟩) (fun e hF hP he hd => .inr ⟨he, hd, by
        refine ⟨by show atF e.F j = some a; rw [hF]; exact h.at_, ?_, by show upN e.F; rw [hF]; exact h.up, ?_⟩
        · show psOf (e.P ++ [(j, b)]) j = Q ++ [b]
          rw [hP, psOf_snoc_same, h.ps]
        · intro p hp
          show (atF e.F p.1).isSome
          rw [hF]
          have hp : p ∈ e.P ++ [(j, b)] := hp
          rw [hP, List.mem_append, List.mem_singleton] at hp
          rcases hp with hp | rfl
          · exact h.pn p hp
          · rw [h.at_]; rfl⟩)
    refine ⟨this.2, ?_⟩
    rcases this.1 with ⟨h1, h2⟩ | ⟨h1, h2, h3⟩
    · exact .inl ⟨h1, .inr h2⟩
    · exact .inr ⟨rfl, h1, h2, h3⟩
/-- the file itself is synced -/
theorem Kf.sync_self (h : Kf j a Q d) (hl : Hlt d) : Hlt (syncD d j).2 ∧ (syncD d j).1 = 0 ∧ (Kf j a Q (syncD d j).2 ∧ (syncD d j).2.dd = true ∨ (syncD d j).2.dd = false ∧ d.dd = false ∧ Kf j (a ++ Q.flatten) [] (syncD d j).2) := by
  have hr : rdD d j = some (a ++ Q.flatten) := by
    unfold rdD
    rw [h.at_, pcs_psOf, h.ps]
    rfl
  unfold syncD
  rw [hr]
  have := Kf.carry (d := d) (f := fun e => { e with F := setF j (a ++ Q.flatten) e.F, P := dropN j e.P }) hl (R := fun e => Kf j a Q e ∧ e.dd = true ∨ e.dd = false ∧ d.dd = false ∧ Kf j (a ++ Q.flatten) [] e) (fun e _ _ => ⟨rfl, rfl, rfl⟩)
    (fun e hF hP hd => .inl ⟨h.same hF hP, hd⟩) (fun e hF hP he hd => .inr ⟨he, hd, by
      refine ⟨?_, ?_, ?_, ?_⟩
      · show atF (setF j (a ++ Q.flatten) e.F) j = _
        rw [hF, at_set_same h.up h.at_]
      · show psOf (dropN j e.P) j = []
        rw [hP, psOf_drop_same]
      · show upN (setF j _ e.F)
        rw [hF]; exact h.up.set _ _
      · intro p hp
        show (atF (setF j _ e.F) p.1).isSome
        have hp1 : p ∈ dropN j e.P := hp
        rw [hP] at hp1
        obtain ⟨h1, h2⟩ := List.mem_filter.1 hp1
        have h3 : j ≠ p.1 := fun e1 => by rw [← e1] at h2; simp at h2
        rw [hF, at_set_ne h.up h3]
        exact h.pn p h1⟩)
  exact ⟨this.2, rfl, this.1⟩
/-- the file itself is cut -/
theorem Kf.cut_self (h : Kf j a [] d) (hl : Hlt d) (k : Nat) : Hlt (cutD d j k).2 ∧ (Kf j a [] (cutD d j k).2 ∨ Kf j (a.take k) [] (cutD d j k).2) := by
  have hr : rdD d j = some a := by
    unfold rdD
    rw [h.at_, pcs_psOf, h.ps]
    simp
  unfold cutD
  rw [hr]
  dsimp only
  split
  · exact ⟨hl, .inl h⟩
  · have := Kf.carry (d := d) (f := fun e => { e with F := setF j (a.take (k : Int).toNat) e.F, P := dropN j e.P }) hl (R := fun e => Kf j a [] e ∨ Kf j (a.take k) [] e) (fun e _ _ => ⟨rfl, rfl, rfl⟩)
      (fun e hF hP hd => .inl (h.same hF hP)) (fun e hF hP he hd => .inr (by
        refine ⟨?_, ?_, ?_, ?_⟩
        · show atF (setF j _ e.F) j = _
          rw [hF, at_set_same h.up h.at_]
          rfl
        · show psOf (dropN j e.P) j = []
          rw [hP, psOf_drop_same]
        · show upN (setF j _ e.F)
          rw [hF]; exact h.up.set _ _
        · intro p hp
          show (atF (setF j _ e.F) p.1).isSome
          have hp1 : p ∈ dropN j e.P := hp
          rw [hP] at hp1
          obtain ⟨h1, h2⟩ := List.mem_filter.1 hp1
          have h3 : j ≠ p.1 := fun e1 => by rw [← e1] at h2; simp at h2
          rw [hF, at_set_ne h.up h3]
          exact h.pn p h1))
    exact ⟨this.2, this.1⟩
end

end Go.Proofs.YtiogckgchlnldaaGreat

/- Layer 10: a swap, a crash, Open, of one journal's file: mathematics. -/
set_option linter.unusedSimpArgs false
set_option linter.unusedVariables false
namespace Go.Proofs.YtiogckgchlnldaaGreat
set_option maxRecDepth 100000

theorem wrapL_ne (o : List UInt8) : wrapL o ≠ [] := by
  intro h
  have := wrapL_two o
  rw [h] at this
  simp at this
section
variable {j o : Nm} {a : List UInt8} {Q : List (List UInt8)} {d : Fd}
theorem apps_kf (room : Int) (ho : o ≠ j) : ∀ (L : List (List UInt8)) (K : List (List UInt8)) (d : Fd), Kf j a Q d → Hlt d → (d.dd = false → atF d.F o = some [] ∧ psOf d.P o = K) →
    Kf j a Q (appsD room o L d).2 ∧ Hlt (appsD room o L d).2 ∧ ((appsD room o L d).1 = 0 → (appsD room o L d).2.dd = false → atF (appsD room o L d).2.F o = some [] ∧ psOf (appsD room o L d).2.P o = K ++ L.map wrapL)
  | [], K, d, h, hl, hd => ⟨h, hl, fun _ e => by rw [List.map_nil, List.append_nil]; exact hd e⟩
  | x :: xs, K, d, h, hl, hd => by
    obtain ⟨h1, h2, h3⟩ := h.append hl ho room (wrapL x) (wrapL_ne x)
    by_cases hz : (appendD room d o (wrapL x)).1 = 0
    · rw [apps_cons0 hz]
      have := apps_kf room ho xs (K ++ [wrapL x]) _ h1 h2 (fun e => by
        obtain ⟨e1, e2, e3⟩ := h3 hz e
        obtain ⟨e4, e5⟩ := hd e1
        exact ⟨by rw [e2, e4], by rw [e3, e5]⟩)
      rw [List.append_assoc] at this
      exact this
    · rw [apps_cons1 hz]
      exact ⟨h1, h2, fun e => absurd e hz⟩
theorem flatten_wrap (L : List (List UInt8)) : (L.map wrapL).flatten = L.flatMap wrapL := by rw [List.flatMap_def]
theorem rewrite_kf (room : Int) (h : Kf j a Q d) (hl : Hlt d) (ho : oth j ≠ j) (L : List (List UInt8)) :
    Hlt (rewriteD room d j L).2 ∧ (Kf j a Q (rewriteD room d j L).2 ∧ ((rewriteD room d j L).1 ≠ 0 ∨ (rewriteD room d j L).2.dd = true) ∨ (rewriteD room d j L).1 = 0 ∧ (rewriteD room d j L).2.dd = false ∧ Kf j (L.flatMap wrapL) [] (rewriteD room d j L).2) := by
  obtain ⟨c1, c2, c3⟩ := h.create hl ho
  unfold rewriteD
  by_cases z1 : (createD d (oth j)).1 = 0
  · rw [if_neg (by rw [z1]; decide)]
    obtain ⟨p1, p2, p3⟩ := apps_kf room ho L [] _ c1 c2 (fun e => (c3 z1 e).2)
    by_cases z2 : (appsD room (oth j) L (createD d (oth j)).2).1 = 0
    · rw [if_neg (by rw [z2]; decide)]
      obtain ⟨s1, s2, s3⟩ := p1.sync p2 ho
      by_cases z3 : (syncD (appsD room (oth j) L (createD d (oth j)).2).2 (oth j)).1 = 0
      · rw [if_neg (by rw [z3]; decide)]
        obtain ⟨r1, r2⟩ := s1.rename s2 ho
        refine ⟨r1, ?_⟩
        rcases r2 with r2 | ⟨r3, r4, r5, c, r6, r7⟩
        · exact .inl r2
        · right
          refine ⟨r3, r4, ?_⟩
          obtain ⟨e1, e2, e3⟩ := s3 z3 r5
          obtain ⟨f1, f2⟩ := p3 z2 e1
          rw [f1, f2, Option.map_some, List.nil_append, List.nil_append, flatten_wrap] at e2
          rw [e2] at r6
          injection r6 with r6
          rw [e3, ← r6] at r7
          exact r7
      · rw [if_pos z3]
        exact ⟨s2, .inl ⟨s1, .inl z3⟩⟩
    · rw [if_pos z2]
      exact ⟨p2, .inl ⟨p1, .inl z2⟩⟩
  · rw [if_pos z1]
    exact ⟨c2, .inl ⟨c1, .inl z1⟩⟩
theorem swap_kf (room : Int) (h : Kf j a Q d) (hl : Hlt d) (ho : oth j ≠ j) (L : List (List UInt8)) :
    Hlt (swapD room d j L).2 ∧ (Kf j a Q (swapD room d j L).2 ∧ ((swapD room d j L).1 ≠ 0 ∨ (swapD room d j L).2.dd = true) ∨ (swapD room d j L).1 = 0 ∧ (swapD room d j L).2.dd = false ∧ (∀ l ∈ L, l.length ≤ 600) ∧ Kf j (L.flatMap wrapL) [] (swapD room d j L).2) := by
  unfold swapD
  by_cases hb : L.any (fun l => decide (600 < l.length)) = true
  · rw [if_pos hb]
    exact ⟨hl, .inl ⟨h, .inl (by show (1 : Nat) ≠ 0; decide)⟩⟩
  · rw [if_neg hb]
    have hL : ∀ l ∈ L, l.length ≤ 600 := fun l hm => by
      have hb2 : L.any (fun l => decide (600 < l.length)) = false := by simpa using hb
      have := List.any_eq_false.1 hb2 l hm
      simpa using this
    obtain ⟨m1, m2⟩ := h.remove hl ho
    obtain ⟨w1, w2⟩ := rewrite_kf room m1 m2 ho L
    generalize rewriteD room (removeD d (oth j)).2 j L = r at w1 w2 ⊢
    by_cases hz : r.1 = 0
    · simp only [hz, ne_eq, not_true_eq_false, if_false]
      refine ⟨w1, ?_⟩
      rcases w2 with ⟨w2, w3⟩ | ⟨w2, w3, w4⟩
      · rcases w3 with w3 | w3
        · exact absurd hz w3
        · exact .inl ⟨w2, .inr w3⟩
      · exact .inr ⟨(by first | exact trivial | rfl), w3, hL, w4⟩
    · simp only [ne_eq, hz, not_false_eq_true, if_true]
      rcases w2 with ⟨w2, w3⟩ | ⟨w2, w3, w4⟩
      · obtain ⟨k1, k2⟩ := w2.remove w1 ho
        exact ⟨k2, .inl ⟨k1, .inl (by first | exact trivial | exact hz)⟩⟩
      · exact absurd w2 hz
/-- a crash only appends -/
theorem crashF_ext {kept : Nat → Bool} {last torn : Int} {n : Nm} : ∀ (ps : Fl) (i : Nat) (b wt : List UInt8), ∃ t, crashF kept last torn n ps i b wt = b ++ t
  | [], i, b, wt => ⟨[], by rw [List.append_nil]; rfl⟩
  | p :: ps, i, b, wt => by
    unfold crashF
    split
    · split
      · obtain ⟨t, ht⟩ := crashF_ext (kept := kept) (last := last) (torn := torn) (n := n) ps (i + 1) (b ++ wt ++ (if (i : Int) = last ∧ 0 ≤ torn ∧ torn < p.2.length then p.2.take torn.toNat else p.2)) []
        exact ⟨_, by rw [ht, List.append_assoc, List.append_assoc]⟩
      · exact crashF_ext ps (i + 1) b _
    · exact crashF_ext ps (i + 1) b wt
/-- behind a hole nothing is read -/
theorem crashF_hole {kept : Nat → Bool} {last torn : Int} {n : Nm} : ∀ (ps : Fl) (i : Nat) (b wt : List UInt8), ∃ t, crashF kept last torn n ps i b (0 :: wt) = b ++ t ∧ Rd10 t [] 0
  | [], i, b, wt => ⟨[], by rw [List.append_nil]; rfl, Rd10.nil⟩
  | p :: ps, i, b, wt => by
    unfold crashF
    split
    · split
      · obtain ⟨t, ht⟩ := crashF_ext (kept := kept) (last := last) (torn := torn) (n := n) ps (i + 1) (b ++ (0 :: wt) ++ (if (i : Int) = last ∧ 0 ≤ torn ∧ torn < p.2.length then p.2.take torn.toNat else p.2)) []
        refine ⟨0 :: (wt ++ (if (i : Int) = last ∧ 0 ≤ torn ∧ torn < p.2.length then p.2.take torn.toNat else p.2) ++ t), ?_, Rd10.zero _⟩
        rw [ht]
        simp
      · exact crashF_hole ps (i + 1) b _
    · exact crashF_hole ps (i + 1) b wt
theorem noz_stop {t : List UInt8} (h : NoZ t) : Rd10 t [] 0 := .stop (fun o r e => absurd rfl (h 0 (by rw [e]; simp)))
theorem torn_stop (o : List UInt8) (k : Nat) (h : k < (wrapL o).length) : Rd10 ((wrapL o).take k) [] 0 := by
  refine noz_stop (fun x hx => ?_)
  have hk : k ≤ (encL o).length := by unfold wrapL at h; simp at h; omega
  unfold wrapL at hx
  rw [List.take_append_of_le_length hk] at hx
  exact encL_noZ o x (List.mem_of_mem_take hx)
/-- what a crash leaves of pieces that are notes -/
theorem crash_rows {kept : Nat → Bool} {last torn : Int} {n : Nm} : ∀ (ps : Fl) (N : List (List UInt8)) (i : Nat) (b : List UInt8), psOf ps n = N.map wrapL → (∀ k : Nat, last < (k : Int) → k < i + ps.length → kept k = false) →
    ∃ m t, m ≤ N.length ∧ crashF kept last torn n ps i b [] = b ++ (N.take m).flatMap wrapL ++ t ∧ Rd10 t [] 0
  | [], N, i, b, h, _ => ⟨0, [], Nat.zero_le _, by simp [crashF], Rd10.nil⟩
  | p :: ps, N, i, b, h, hk => by
    have hk1 : ∀ k : Nat, last < (k : Int) → k < i + 1 + ps.length → kept k = false := fun k a c => hk k a (by rw [List.length_cons]; omega)
    unfold crashF
    by_cases hp : p.1 = n
    · rw [if_pos (by simpa using hp)]
      have hps : psOf (p :: ps) n = p.2 :: psOf ps n := by
        unfold psOf
        rw [List.filter_cons_of_pos (by simpa using hp), List.map_cons]
      rw [hps] at h
      cases N with
      | nil => cases h
      | cons o N =>
        rw [List.map_cons] at h
        injection h with h1 h2
        by_cases hki : kept i = true
        · rw [if_pos hki]
          by_cases ht : (i : Int) = last ∧ 0 ≤ torn ∧ torn < p.2.length
          · rw [if_pos ht, crashF_none ps _ _ _ (fun j a c => hk j (by omega) (by rw [List.length_cons]; omega))]
            refine ⟨0, p.2.take torn.toNat, Nat.zero_le _, by simp, ?_⟩
            rw [h1]
            exact torn_stop o _ (by rw [← h1]; omega)
          · rw [if_neg ht]
            obtain ⟨m, t, hm, he, hr⟩ := crash_rows ps N (i + 1) (b ++ [] ++ p.2) h2 hk1
            refine ⟨m + 1, t, by rw [List.length_cons]; omega, ?_, hr⟩
            rw [he, List.take_succ_cons, List.flatMap_cons, h1]
            simp
        · rw [if_neg hki]
          have hl : 0 < p.2.length := by rw [h1]; have := wrapL_two o; omega
          obtain ⟨q, hq⟩ : ∃ q, p.2.length = q + 1 := ⟨p.2.length - 1, by omega⟩
          rw [hq, List.nil_append, List.replicate_succ]
          obtain ⟨t, he, hr⟩ := crashF_hole (kept := kept) (last := last) (torn := torn) (n := n) ps (i + 1) b (List.replicate q 0)
          exact ⟨0, t, Nat.zero_le _, by rw [he]; simp, hr⟩
    · rw [if_neg (by simpa using hp)]
      have hps : psOf (p :: ps) n = psOf ps n := by
        unfold psOf
        rw [List.filter_cons_of_neg (by simpa using hp)]
      rw [hps] at h
      exact crash_rows ps N (i + 1) b h hk1
theorem at_map (F : Fl) (g : Nm × List UInt8 → List UInt8) (n : Nm) : atF (F.map fun f => (f.1, g f)) n = (F.find? fun f => f.1 == n).map g := by
  unfold atF
  rw [find_map_eq, Option.map_map]
  rfl
theorem crash_kf (h : Kf j a Q d) (N : List (List UInt8)) (hQ : Q = N.map wrapL) (kept : Nat → Bool) (torn : Int) :
    ∃ m t, m ≤ N.length ∧ Rd10 t [] 0 ∧ Kf j (a ++ (N.take m).flatMap wrapL ++ t) [] (crashD d kept torn) := by
  obtain ⟨m, t, hm, he, hr⟩ := crash_rows (kept := kept) (last := lastK kept d.P.length) (torn := torn) d.P N 0 a (by rw [h.ps, hQ]) (fun k h1 h2 => by
    cases hk : kept k with
    | false => rfl
    | true =>
      have := lastK_ge kept d.P.length k hk (by omega)
      omega)
  refine ⟨m, t, hm, hr, ?_, rfl, ?_, fun p hp => by cases hp⟩
  · show atF (d.F.map fun f => (f.1, crashF kept (lastK kept d.P.length) torn f.1 d.P 0 f.2 [])) j = _
    rw [at_map]
    have hat := h.at_
    unfold atF at hat
    rw [Option.map_eq_some_iff] at hat
    obtain ⟨f, hf, rfl⟩ := hat
    have hn : f.1 = j := by simpa using List.find?_some hf
    rw [hf, Option.map_some, hn, he]
  · show upN (d.F.map _)
    unfold upN
    rw [List.pairwise_map]
    exact h.up
theorem crash_hl (d : Fd) (kept : Nat → Bool) (torn : Int) : Hlt (crashD d kept torn) ∧ (crashD d kept torn).dd = false ∧ (crashD d kept torn).st = false := ⟨(fun e => by cases e), rfl, rfl⟩
theorem halt_kf (h : Kf j a Q d) (hd : d.dd = false) (k : Int) : Kf j a Q (haltD d k) ∧ Hlt (haltD d k) ∧ (haltD d k).dd = false := ⟨h.same rfl rfl, (fun e => by
  have : d.dd = true := e
  rw [hd] at this
  cases this), hd⟩
theorem cut_hl (hl : Hlt d) (x : Nm) (k : Int) : Hlt (cutD d x k).2 := by
  unfold cutD
  cases hr : rdD d x with
  | none => exact hl
  | some b =>
    dsimp only
    split
    · exact hl
    · exact (Kf.carry (d := d) (f := fun e => { e with F := setF x (b.take k.toNat) e.F, P := dropN x e.P }) hl (R := fun _ => True) (fun e _ _ => ⟨rfl, rfl, rfl⟩) (fun e hF hP hd => trivial) (fun e hF hP he hd => trivial)).2
theorem create_there (h : Kf j a Q d) (hk : okN j = true) : createD d j = (81, d) := by
  unfold createD
  rw [if_neg (by rw [hk]; decide), h.at_]
  rfl
theorem ok_of_len {n : Nm} (h : lenOk n = true) : okN n = true := by
  have := of_decide_eq_true h
  exact decide_eq_true (by omega)
theorem Rd10.front {l : List UInt8} {L : List (List UInt8)} {n : Nat} (h : Rd10 l L n) : l.take n = L.flatMap wrapL ∧ n ≤ l.length := by
  induction h with
  | stop _ => exact ⟨rfl, Nat.zero_le _⟩
  | @next l o r L n h1 h2 h3 ih =>
    have e : l = wrapL o ++ r := by rw [h1]; unfold wrapL; simp
    rw [e, List.take_length_add_append, List.flatMap_cons, ih.1, List.length_append]
    exact ⟨rfl, by have := ih.2; omega⟩
theorem open_kf (h : Kf j a Q d) (hl : Hlt d) (hj : lenOk j = true) (ho : oth j ≠ j) {G : List (List UInt8)} {u : Nat} (hG : Rd10 (a ++ Q.flatten) G u) :
    (topenD d j).1 = 0 ∧ (topenD d j).2.1 = G ∧ Hlt (topenD d j).2.2 ∧ (u = (a ++ Q.flatten).length → Kf j a Q (topenD d j).2.2) ∧ (Q = [] → ∃ b, Rd10 b G u ∧ Kf j b [] (topenD d j).2.2) := by
  obtain ⟨m1, m2⟩ := h.remove hl ho
  have hc := create_there m1 (ok_of_len hj)
  have hr : rdD (removeD d (oth j)).2 j = some (a ++ Q.flatten) := by
    unfold rdD
    rw [m1.at_, pcs_psOf, m1.ps]
    rfl
  unfold topenD
  rw [if_neg (by rw [hj]; decide), hc, if_neg (by simp)]
  simp only [hr, Option.getD_some, hG.eq]
  refine ⟨trivial, trivial, ?_, ?_, ?_⟩
  · split
    · exact cut_hl m2 _ _
    · exact m2
  · intro e
    rw [if_neg (by omega)]
    exact m1
  · rintro rfl
    rw [List.flatten_nil, List.append_nil] at hG ⊢
    split
    · rcases (m1.cut_self m2 u).2 with h3 | h3
      · exact ⟨a, hG, h3⟩
      · refine ⟨_, ?_, h3⟩
        have h1 := Rd10.rows Rd10.nil G hG.le.2.2
        rw [List.append_nil, ← hG.front.1] at h1
        have h2 := h1.sum
        rw [← hG.sum] at h2
        rw [h2] at h1
        exact h1
    · exact ⟨a, hG, m1⟩
end

end Go.Proofs.YtiogckgchlnldaaGreat

/- Layer 10: bytes in use behind Open and Swap. -/
set_option linter.unusedSimpArgs false
set_option linter.unusedVariables false
namespace Go.Proofs.YtiogckgchlnldaaGreat
set_option maxRecDepth 100000

/-- there are files that say the data -/
def Fx (d : Fd) : Prop := ∃ T, Fi d T
section
variable {d : Fd}
theorem fx_same {d' : Fd} (h : Fx d) (hF : d'.F = d.F) (hP : d'.P = d.P) : Fx d' := h.elim fun T h => ⟨T, h.same hF hP⟩
theorem fx_runs (h : Fx d) : Fx (runsD d).2 := fx_same h (runs_keeps d).1 (runs_keeps d).2
theorem fx_if {f : Fd → Fd} (h : Fx d) (hf : Fx (f d)) (he : ∀ e : Fd, e.F = d.F → e.P = d.P → (f e).F = (f d).F ∧ (f e).P = (f d).P) : Fx (if (runsD d).1 = true then f (runsD d).2 else (runsD d).2) := by
  split
  · obtain ⟨e1, e2⟩ := he (runsD d).2 (runs_keeps d).1 (runs_keeps d).2
    exact fx_same hf e1 e2
  · exact fx_runs h
theorem fx_remove (h : Fx d) (n : Nm) : Fx (removeD d n).2 := by
  unfold removeD
  split
  · exact h
  · exact fx_if (f := fun e => { e with F := dropN n e.F, P := dropN n e.P }) h (h.elim fun T h => ⟨_, h.dropd n⟩) (fun e e1 e2 => ⟨by show dropN n e.F = _; rw [e1], by show dropN n e.P = _; rw [e2]⟩)
theorem fx_create (h : Fx d) (n : Nm) : Fx (createD d n).2 := by
  unfold createD
  split
  · exact h
  · split
    · exact h
    · split
      · exact h
      · rename_i h1 h2 h3
        refine fx_if (f := fun e => { e with F := insF (n, []) e.F }) h ?_ (fun e e1 e2 => ⟨by show insF _ e.F = _; rw [e1], e2⟩)
        obtain ⟨T, h⟩ := h
        have hat : atF d.F n = none := by
          cases e : atF d.F n with
          | none => rfl
          | some x => rw [e] at h2; simp at h2
        have hok : okN n = true := by simpa using h1
        exact ⟨_, h.ins (t := ⟨n, [], 0, 0, none, 0⟩) (uniq_of (h.gone hat)) rfl rfl (of_decide_eq_true hok).2 (by have := h.len; omega)⟩
theorem fx_set (h : Fx d) {n : Nm} {b c : List UInt8} (hr : rdD d n = some b) (hc : c.length ≤ b.length) : Fx { d with F := setF n c d.F, P := dropN n d.P } := by
  obtain ⟨T, h⟩ := h
  obtain ⟨x, hx⟩ : ∃ x, atF d.F n = some x := by
    unfold rdD at hr
    cases e : atF d.F n with
    | none => rw [e] at hr; cases hr
    | some x => exact ⟨x, rfl⟩
  obtain ⟨i, t, hi, hf, htn, -⟩ := h.there hx
  have hbt : b = t.b := by
    have := h.rd hf
    rw [hr] at this
    injection this
  subst htn
  exact ⟨_, h.setd hi (t' := ⟨t.nm, c, c.length, t.g, t.A, t.c⟩) rfl rfl (by rw [← hbt]; exact hc)⟩
theorem fx_sync (h : Fx d) (n : Nm) : Fx (syncD d n).2 := by
  unfold syncD
  cases hr : rdD d n with
  | none => exact h
  | some b => exact fx_if (f := fun e => { e with F := setF n b e.F, P := dropN n e.P }) h (fx_set h hr (Nat.le_refl _)) (fun e e1 e2 => ⟨by show setF n b e.F = _; rw [e1], by show dropN n e.P = _; rw [e2]⟩)
theorem fx_cut (h : Fx d) (n : Nm) (k : Int) : Fx (cutD d n k).2 := by
  unfold cutD
  cases hr : rdD d n with
  | none => exact h
  | some b =>
    dsimp only
    split
    · exact h
    · exact fx_if (f := fun e => { e with F := setF n (b.take k.toNat) e.F, P := dropN n e.P }) h (fx_set h hr (by rw [List.length_take]; omega)) (fun e e1 e2 => ⟨by show setF n _ e.F = _; rw [e1], by show dropN n e.P = _; rw [e2]⟩)
theorem fx_rename (h : Fx d) (n m : Nm) : Fx (renameD d n m).2 := by
  unfold renameD
  cases hat : atF d.F n with
  | none => exact h
  | some x =>
    dsimp only
    split
    · exact h
    · split
      · exact h
      · rename_i h1 h2
        refine fx_if (f := fun e => { e with F := insF (m, x) (dropN n (dropN m e.F)), P := (dropN m e.P).map fun p => if p.1 == n then (m, p.2) else p }) h ?_ (fun e e1 e2 => ⟨by show insF _ (dropN n (dropN m e.F)) = _; rw [e1], by show (dropN m e.P).map _ = _; rw [e2]⟩)
        obtain ⟨T, h⟩ := h
        obtain ⟨i, t, hi, hf, htn, htx⟩ := h.there hat
        subst htn
        have hok : okN m = true := by simpa using h1
        have h4 := h.rend (List.mem_of_getElem? hi) (of_decide_eq_true hok).2 h2
        rw [htx] at h4
        exact ⟨_, h4⟩
theorem fx_append (h : Fx d) (room : Int) (n : Nm) (b : List UInt8) (hu : usedD d + b.length ≤ 200000) (hl : d.P.length < 1000000) : Fx (appendD room d n b).2 := by
  unfold appendD
  split
  · exact h
  · split
    · exact h
    · split
      · exact h
      · rename_i h1 h2 h3
        refine fx_if (f := fun e => { e with P := e.P ++ [(n, b)] }) h ?_ (fun e e1 e2 => ⟨e1, by show e.P ++ _ = _; rw [e2]⟩)
        obtain ⟨T, h⟩ := h
        obtain ⟨x, hx⟩ : ∃ x, atF d.F n = some x := by
          cases e : atF d.F n with
          | none => rw [e] at h1; simp at h1
          | some x => exact ⟨x, rfl⟩
        obtain ⟨i, t, hi, hf, htn, -⟩ := h.there hx
        subst htn
        exact ⟨_, h.app hi (t' := ⟨t.nm, t.b ++ b, t.su, t.g, t.A, t.c⟩) rfl rfl b rfl hu hl⟩
theorem fx_crash (h : Fx d) (kept : Nat → Bool) (torn : Int) : Fx (crashD d kept torn) := h.elim fun T h => ⟨_, h.crashd rfl⟩
theorem ux_remove (h : Fx d) (n : Nm) : usedD (removeD d n).2 ≤ usedD d := h.elim fun T h => used_remove h n
theorem ux_create (h : Fx d) (n : Nm) : usedD (createD d n).2 ≤ usedD d := h.elim fun T h => used_create h n
theorem ux_sync (h : Fx d) (n : Nm) : usedD (syncD d n).2 ≤ usedD d := h.elim fun T h => used_sync h n
theorem ux_cut (h : Fx d) (n : Nm) (k : Int) : usedD (cutD d n k).2 ≤ usedD d := h.elim fun T h => used_cut h n k
theorem ux_rename (h : Fx d) (n m : Nm) : usedD (renameD d n m).2 ≤ usedD d := h.elim fun T h => used_rename h n m
theorem ux_append (h : Fx d) (room : Int) (n : Nm) (b : List UInt8) (hu : usedD d + b.length ≤ 200000) (hl : d.P.length < 1000000) : usedD (appendD room d n b).2 ≤ usedD d + b.length := h.elim fun T h => used_append h room n b hu hl
theorem ux_crash (h : Fx d) (kept : Nat → Bool) (torn : Int) : usedD (crashD d kept torn) ≤ usedD d := h.elim fun T h => used_crash h kept torn

/-- bytes, calls left, pieces: not more than before, or so many more -/
structure Bdd (k : Nat) (d d' : Fd) : Prop where
  fx : Fx d'
  us : usedD d' ≤ usedD d + 610 * k
  lf : d'.lf ≤ d.lf
  pl : d'.P.length ≤ d.P.length + k
theorem Bdd.refl (h : Fx d) : Bdd 0 d d := ⟨h, by omega, Nat.le_refl _, by omega⟩
theorem Bdd.trans {k m : Nat} {e f : Fd} (h : Bdd k d e) (g : Bdd m e f) : Bdd (k + m) d f := ⟨g.fx, by have := h.us; have := g.us; omega, Nat.le_trans g.lf h.lf, by have := h.pl; have := g.pl; omega⟩
theorem Bdd.mono {k m : Nat} {e : Fd} (h : Bdd k d e) (hk : k ≤ m) : Bdd m d e := ⟨h.fx, by have := h.us; omega, h.lf, by have := h.pl; omega⟩
theorem bdd_of {f : Fd} (h1 : Fx f) (h2 : usedD f ≤ usedD d) (h3 : Lp 0 d f) : Bdd 0 d f := ⟨h1, by omega, h3.1, h3.2⟩
theorem bd_remove (h : Fx d) (n : Nm) : Bdd 0 d (removeD d n).2 := bdd_of (fx_remove h n) (ux_remove h n) (lp_remove d n)
theorem bd_create (h : Fx d) (n : Nm) : Bdd 0 d (createD d n).2 := bdd_of (fx_create h n) (ux_create h n) (lp_create d n)
theorem bd_sync (h : Fx d) (n : Nm) : Bdd 0 d (syncD d n).2 := bdd_of (fx_sync h n) (ux_sync h n) (lp_sync d n)
theorem bd_cut (h : Fx d) (n : Nm) (k : Int) : Bdd 0 d (cutD d n k).2 := bdd_of (fx_cut h n k) (ux_cut h n k) (lp_cut d n k)
theorem bd_rename (h : Fx d) (n m : Nm) : Bdd 0 d (renameD d n m).2 := bdd_of (fx_rename h n m) (ux_rename h n m) (lp_rename d n m)
theorem bd_crash (h : Fx d) (kept : Nat → Bool) (torn : Int) : Bdd 0 d (crashD d kept torn) := bdd_of (fx_crash h kept torn) (ux_crash h kept torn) (lp_crash d kept torn)
theorem bd_append (h : Fx d) (room : Int) (n : Nm) {x : List UInt8} (hx : x.length ≤ 600) (hu : usedD d + 610 ≤ 200000) (hl : d.P.length < 1000000) : Bdd 1 d (appendD room d n (wrapL x)).2 := by
  have hw := wrapL_600 hx
  have h1 := ux_append h room n (wrapL x) (by omega) hl
  have h2 := lp_append room d n (wrapL x)
  exact ⟨fx_append h room n _ (by omega) hl, by omega, h2.1, h2.2⟩
theorem bd_tappend (h : Fx d) (room : Int) (n : Nm) (x : List UInt8) (hu : usedD d + 610 ≤ 200000) (hl : d.P.length < 1000000) : Bdd 1 d (tappendD room d n x).2 := by
  unfold tappendD
  split
  · exact (Bdd.refl h).mono (by omega)
  · exact bd_append h room n (by omega) hu hl
theorem bd_apps (room : Int) (o : Nm) : ∀ (L : List (List UInt8)) (d : Fd), Fx d → (∀ x ∈ L, x.length ≤ 600) → usedD d + 610 * L.length ≤ 200000 → d.P.length + L.length ≤ 1000000 → Bdd L.length d (appsD room o L d).2
  | [], d, h, _, _, _ => Bdd.refl h
  | x :: xs, d, h, hx, hu, hl => by
    rw [List.length_cons] at hu hl
    have h1 := bd_append h room o (hx x List.mem_cons_self) (by omega) (by omega)
    unfold appsD
    split
    · exact h1.mono (by rw [List.length_cons]; omega)
    · have h2 := bd_apps room o xs _ h1.fx (fun y hy => hx y (List.mem_cons_of_mem _ hy)) (by have := h1.us; omega) (by have := h1.pl; omega)
      exact (h1.trans h2).mono (by rw [List.length_cons]; omega)
theorem bd_rewrite (h : Fx d) (room : Int) (n : Nm) (L : List (List UInt8)) (hx : ∀ x ∈ L, x.length ≤ 600) (hu : usedD d + 610 * L.length ≤ 200000) (hl : d.P.length + L.length ≤ 1000000) : Bdd L.length d (rewriteD room d n L).2 := by
  have h1 := bd_create h (oth n)
  have h2 := bd_apps room (oth n) L _ h1.fx hx (by have := h1.us; omega) (by have := h1.pl; omega)
  have h3 := bd_sync h2.fx (oth n)
  have h4 := bd_rename h3.fx (oth n) n
  unfold rewriteD
  split
  · exact h1.mono (by omega)
  · split
    · exact (h1.trans h2).mono (by omega)
    · split
      · exact ((h1.trans h2).trans h3).mono (by omega)
      · exact (((h1.trans h2).trans h3).trans h4).mono (by omega)
theorem bd_swap (h : Fx d) (room : Int) (n : Nm) (L : List (List UInt8)) (hu : usedD d + 610 * L.length ≤ 200000) (hl : d.P.length + L.length ≤ 1000000) : Bdd L.length d (swapD room d n L).2 := by
  unfold swapD
  split
  · exact (Bdd.refl h).mono (by omega)
  · rename_i hb
    have hL : ∀ l ∈ L, l.length ≤ 600 := fun l hm => by
      have hb2 : L.any (fun l => decide (600 < l.length)) = false := by simpa using hb
      have := List.any_eq_false.1 hb2 l hm
      simpa using this
    have h1 := bd_remove h (oth n)
    have h2 := bd_rewrite h1.fx room n L hL (by have := h1.us; omega) (by have := h1.pl; omega)
    dsimp only
    split
    · exact ((h1.trans h2).trans (bd_remove h2.fx (oth n))).mono (by omega)
    · exact (h1.trans h2).mono (by omega)
theorem bd_open (h : Fx d) (n : Nm) : Bdd 0 d (topenD d n).2.2 := by
  have h1 := bd_remove h (oth n)
  have h2 := bd_create h1.fx n
  unfold topenD
  split
  · exact Bdd.refl h
  · split
    · exact h1
    · dsimp only
      split
      · exact ((h1.trans h2).trans (bd_cut h2.fx n _)).mono (by omega)
      · exact (h1.trans h2).mono (by omega)
theorem bd_halt (h : Fx d) (k : Int) (hk : k.toNat ≤ d.lf) : Bdd 0 d (haltD d k) := ⟨fx_same h rfl rfl, Nat.le_refl _, hk, Nat.le_refl _⟩
end

end Go.Proofs.YtiogckgchlnldaaGreat

/- Layer 10: known. -/
set_option linter.unusedSimpArgs false
set_option linter.unusedVariables false
namespace Go.Proofs.YtiogckgchlnldaaGreat
open Go.RowKit
set_option maxRecDepth 100000

def nJ : Nm := [106]
def jd1 : Fd := ⟨[(nJ, [])], [], false, 0, false⟩
def jd2 : Fd := ⟨[(nJ, [])], [(nJ, [4, 1, 2, 3, 0])], false, 0, false⟩
theorem j_0 : createD (removeD fd0 (oth nJ)).2 nJ = (0, jd1) := by kernel_rfl
theorem j_r : rdD jd1 nJ = some [] := by kernel_rfl
theorem j_1 : topenD fd0 nJ = (0, [], jd1) := by
  unfold topenD
  rw [j_0, if_neg (by decide), if_neg (by decide)]
  simp only [j_r, Option.getD_some, Rd10.nil.eq]
  rfl
theorem j_2 : tappendD (1000 : Nat) jd1 nJ [1, 2, 3] = (0, jd2) := by kernel_rfl
theorem j_3 : rdD jd2 nJ = some [4, 1, 2, 3, 0] := by kernel_rfl

set_option maxHeartbeats 8000000 in
theorem fknownT_any (w : World) : Calls Tryz.prog 5 #[] w fun e w' => e = .returned (.bool true) ∧ Below w.heap.size w w' := by
  have HN := Lib.hid (new_any (Sep.nil (Below.refl w.heap.size w) (Nat.le_refl _)) 1000 (by omega))
  go_enter Tryz.func5, Tryz.ntmps5
  go_wp2_with fail
  refine HN.out.mono ?_
  rintro e w1 ⟨q, rfl, h1⟩
  have HC := Lib.hid (topen_any nJ h1 (by decide) (by decide))
  rw [j_1] at HC
  clear HN h1
  go_wp2_with fail
  refine HC.out.mono ?_
  rintro e w2 (⟨h2, -⟩ | ⟨-, tp, R, k, cr, L, rfl, hLk, hLe, h2⟩)
  · exact absurd rfl h2
  obtain rfl : L = [] := by cases L with
    | nil => rfl
    | cons a l => cases hLe
  obtain rfl : k = 0 := hLk.symm
  have H2 := Lib.hid h2
  clear h2 HC hLk hLe
  obtain ⟨W, hW⟩ : ∃ W, W = w2.alloc (.cells #[.int .u8 1, .int .u8 2, .int .u8 3] 5) := ⟨_, rfl⟩
  have h3 : FsI w.heap.size w W q 1000 [thN (.slice R 0 cr) [], thT tp q nJ] jd1 := H2.out.go (by rw [hW]; exact below_alloc _ _)
  have hb3 : Bs W (some ⟨w2.heap.size, 0, none⟩) [1, 2, 3] := OwnB.bs (by rw [hW]; exact own_built w2 [1, 2, 3] (Nat.zero_le _) (by decide))
  have HC := Lib.hid (tappend_any tp nJ (some ⟨w2.heap.size, 0, none⟩) 3 [1, 2, 3] h3 (by simp) (by decide) hb3 (by decide) (by decide) (by decide) (by omega) (by decide +kernel) (by decide))
  rw [j_2] at HC
  clear h3 H2 hb3
  go_wp2_with fail
  rw [← hW]
  clear hW
  refine HC.out.mono ?_
  rintro e w3 ⟨rfl, h3⟩
  have H3 := Lib.hid h3
  have HR := Lib.hid (read_some nJ (by decide) h3 _ j_3)
  clear h3 HC
  go_wp2_with fail
  refine HR.out.mono ?_
  rintro e w4 ⟨A, c, rfl, h4⟩
  obtain ⟨o8, b8⟩ := h4.out
  have HB := Lib.hid ((H3.out.go b8).b)
  have s1 : (convert 22 9 (.slice A 5 c)).run Tryz.prog w4 = .ok (.string ⟨#[4, 1, 2, 3, 0]⟩) w4 := str_of (OwnB.bs o8) c
  have s2 : (convert 22 9 (.slice (some ⟨w4.heap.size, 0, none⟩) 5 5)).run Tryz.prog (w4.alloc (.cells #[.int .u8 4, .int .u8 1, .int .u8 2, .int .u8 3, .int .u8 0] 5)) = .ok (.string ⟨#[4, 1, 2, 3, 0]⟩) (w4.alloc (.cells #[.int .u8 4, .int .u8 1, .int .u8 2, .int .u8 3, .int .u8 0] 5)) := str_of (OwnB.bs (own_built w4 [4, 1, 2, 3, 0] (Nat.zero_le _) (by decide))) 5
  have HB2 := Lib.hid (HB.out.alloc HB.out.size (.cells #[.int .u8 4, .int .u8 1, .int .u8 2, .int .u8 3, .int .u8 0] 5))
  clear h4 HR
  go_wp2_with fail
  go_ret
  exact ⟨rfl, HB2.out⟩

end Go.Proofs.YtiogckgchlnldaaGreat

/- Layer 10: what a journal holds from call to call: mathematics. -/
set_option linter.unusedSimpArgs false
set_option linter.unusedVariables false
namespace Go.Proofs.YtiogckgchlnldaaGreat
set_option maxRecDepth 100000

section
variable {d : Fd} {room : Int}
theorem rm_append (h : Fx d) (n : Nm) {x : List UInt8} (hx : x.length ≤ 600) (hu : usedD d + 610 ≤ 200000) (hl : d.P.length < 1000000) (hr : (usedD d : Int) ≤ room) : (usedD (appendD room d n (wrapL x)).2 : Int) ≤ room := by
  obtain ⟨T, h⟩ := h
  exact append_room h (by have := wrapL_600 hx; omega) hl hr
theorem rm_tappend (h : Fx d) (n : Nm) (x : List UInt8) (hu : usedD d + 610 ≤ 200000) (hl : d.P.length < 1000000) (hr : (usedD d : Int) ≤ room) : (usedD (tappendD room d n x).2 : Int) ≤ room := by
  unfold tappendD
  split
  · exact hr
  · exact rm_append h n (by omega) hu hl hr
theorem rm_apps (o : Nm) : ∀ (L : List (List UInt8)) (d : Fd), Fx d → (∀ x ∈ L, x.length ≤ 600) → usedD d + 610 * L.length ≤ 200000 → d.P.length + L.length ≤ 1000000 → (usedD d : Int) ≤ room → (usedD (appsD room o L d).2 : Int) ≤ room
  | [], d, _, _, _, _, hr => hr
  | x :: xs, d, h, hx, hu, hl, hr => by
    rw [List.length_cons] at hu hl
    have h1 := bd_append h room o (hx x List.mem_cons_self) (by omega) (by omega)
    have h2 := rm_append h o (hx x List.mem_cons_self) (by omega) (by omega) hr
    unfold appsD
    split
    · exact h2
    · exact rm_apps o xs _ h1.fx (fun y hy => hx y (List.mem_cons_of_mem _ hy)) (by have := h1.us; omega) (by have := h1.pl; omega) h2
theorem rm_swap (h : Fx d) (n : Nm) (L : List (List UInt8)) (hu : usedD d + 610 * L.length ≤ 200000) (hl : d.P.length + L.length ≤ 1000000) (hr : (usedD d : Int) ≤ room) : (usedD (swapD room d n L).2 : Int) ≤ room := by
  unfold swapD
  split
  · exact hr
  · rename_i hb
    have hL : ∀ l ∈ L, l.length ≤ 600 := fun l hm => by
      have hb2 : L.any (fun l => decide (600 < l.length)) = false := by simpa using hb
      have := List.any_eq_false.1 hb2 l hm
      simpa using this
    have h1 := bd_remove h (oth n)
    have r1 : (usedD (removeD d (oth n)).2 : Int) ≤ room := by have := h1.us; omega
    have hw : Fx (rewriteD room (removeD d (oth n)).2 n L).2 ∧ (usedD (rewriteD room (removeD d (oth n)).2 n L).2 : Int) ≤ room := by
      generalize (removeD d (oth n)).2 = e at h1 r1
      have h2 := bd_create h1.fx (oth n)
      have h3 := bd_apps room (oth n) L _ h2.fx hL (by have := h1.us; have := h2.us; omega) (by have := h1.pl; have := h2.pl; omega)
      have r3 := rm_apps (room := room) (oth n) L _ h2.fx hL (by have := h1.us; have := h2.us; omega) (by have := h1.pl; have := h2.pl; omega) (by have := h2.us; omega)
      have h4 := bd_sync h3.fx (oth n)
      have h5 := bd_rename h4.fx (oth n) n
      unfold rewriteD
      split
      · exact ⟨h2.fx, by have := h2.us; omega⟩
      · split
        · exact ⟨h3.fx, r3⟩
        · split
          · exact ⟨h4.fx, by have := h4.us; omega⟩
          · exact ⟨h5.fx, by have := h4.us; have := h5.us; omega⟩
    dsimp only
    split
    · have := (bd_remove hw.1 (oth n)).us
      omega
    · exact hw.2
end

/-- the journal holds La, of which su are sure; or a call was lost, and it holds Lw, of which sw are -/
structure SL (dk : Fd) (La Lw : List (List UInt8)) (su sw : Nat) : Prop where
  hl : Hlt dk
  st : ∃ D N, Kf nJ (D.flatMap wrapL) (N.map wrapL) dk ∧ (∀ o ∈ D ++ N, o.length ≤ 600) ∧ ((D ++ N = La ∧ D.length = su) ∨ (dk.dd = true ∧ D ++ N = Lw ∧ D.length = sw))
section
variable {dk : Fd} {La Lw : List (List UInt8)} {su sw : Nat}
theorem SL.first (h : SL dk La Lw su sw) (hd : dk.dd = false) : ∃ D N, Kf nJ (D.flatMap wrapL) (N.map wrapL) dk ∧ (∀ o ∈ D ++ N, o.length ≤ 600) ∧ D ++ N = La ∧ D.length = su := by
  obtain ⟨D, N, h1, h2, ⟨h3, h4⟩ | ⟨h3, _⟩⟩ := h.st
  · exact ⟨D, N, h1, h2, h3, h4⟩
  · rw [hd] at h3; cases h3
theorem SL.none (h : SL dk La Lw su sw) (hd : dk.dd = false) : SL dk La La su su := by
  obtain ⟨D, N, h1, h2, h3, h4⟩ := h.first hd
  exact ⟨h.hl, D, N, h1, h2, .inl ⟨h3, h4⟩⟩
theorem SL.sync (h : SL dk La Lw su sw) (hd : dk.dd = false) : (syncD dk nJ).1 = 0 ∧ ((syncD dk nJ).2.dd = true → SL (syncD dk nJ).2 La La su su) ∧ ((syncD dk nJ).2.dd = false → SL (syncD dk nJ).2 La La La.length su) := by
  obtain ⟨D, N, h1, h2, h3, h4⟩ := h.first hd
  obtain ⟨s1, s2, s3⟩ := h1.sync_self h.hl
  refine ⟨s2, fun e => ?_, fun e => ?_⟩
  · rcases s3 with ⟨s3, -⟩ | ⟨s3, -⟩
    · exact ⟨s1, D, N, s3, h2, .inl ⟨h3, h4⟩⟩
    · rw [e] at s3; cases s3
  · rcases s3 with ⟨-, s3⟩ | ⟨-, -, s3⟩
    · rw [e] at s3; cases s3
    · refine ⟨s1, La, [], ?_, by rw [List.append_nil, ← h3]; exact h2, .inl ⟨List.append_nil _, rfl⟩⟩
      rw [flatten_wrap, ← List.flatMap_append, h3] at s3
      exact s3
theorem SL.swap (h : SL dk La Lw su sw) (hd : dk.dd = false) (room : Int) (L : List (List UInt8)) : ((swapD room dk nJ L).1 = 0 → SL (swapD room dk nJ L).2 L La L.length su) ∧ ((swapD room dk nJ L).1 ≠ 0 → SL (swapD room dk nJ L).2 La La su su) := by
  obtain ⟨D, N, h1, h2, h3, h4⟩ := h.first hd
  obtain ⟨s1, s2⟩ := swap_kf room h1 h.hl (by decide) L
  refine ⟨fun e => ?_, fun e => ?_⟩
  · rcases s2 with ⟨s2, s3 | s3⟩ | ⟨s2, s3, s4, s5⟩
    · exact absurd e s3
    · exact ⟨s1, D, N, s2, h2, .inr ⟨s3, h3, h4⟩⟩
    · exact ⟨s1, L, [], s5, by rw [List.append_nil]; exact s4, .inl ⟨List.append_nil _, rfl⟩⟩
  · rcases s2 with ⟨s2, -⟩ | ⟨s2, -⟩
    · exact ⟨s1, D, N, s2, h2, .inl ⟨h3, h4⟩⟩
    · exact absurd s2 e
theorem SL.app (h : SL dk La Lw su sw) (hd : dk.dd = false) (room : Int) (b : List UInt8) : ((tappendD room dk nJ b).1 = 0 → SL (tappendD room dk nJ b).2 (La ++ [b]) La su su) ∧ ((tappendD room dk nJ b).1 ≠ 0 → SL (tappendD room dk nJ b).2 La La su su) := by
  unfold tappendD
  by_cases h6 : 600 < b.length
  · rw [if_pos h6]
    exact ⟨(fun e => by cases e), fun _ => h.none hd⟩
  · rw [if_neg h6]
    obtain ⟨D, N, h1, h2, h3, h4⟩ := h.first hd
    obtain ⟨s1, s2⟩ := h1.append_self h.hl room (wrapL b) (wrapL_ne b)
    refine ⟨fun e => ?_, fun e => ?_⟩
    · rcases s2 with ⟨s2, s3 | s3⟩ | ⟨s2, s3, s4, s5⟩
      · exact absurd e s3
      · exact ⟨s1, D, N, s2, h2, .inr ⟨s3, h3, h4⟩⟩
      · refine ⟨s1, D, N ++ [b], by rw [List.map_append]; exact s5, ?_, .inl ⟨by rw [← List.append_assoc, h3], h4⟩⟩
        intro o ho
        rw [← List.append_assoc, List.mem_append, List.mem_singleton] at ho
        rcases ho with ho | rfl
        · exact h2 o ho
        · omega
    · rcases s2 with ⟨s2, -⟩ | ⟨s2, -⟩
      · exact ⟨s1, D, N, s2, h2, .inl ⟨h3, h4⟩⟩
      · exact absurd s2 e
theorem crashF_skip {kept : Nat → Bool} {last torn : Int} {n : Nm} : ∀ (ps : Fl) (i : Nat) (b : List UInt8), psOf ps n = [] → crashF kept last torn n ps i b [] = b
  | [], _, _, _ => rfl
  | p :: ps, i, b, h => by
    unfold psOf at h
    rw [List.map_eq_nil_iff, List.filter_eq_nil_iff] at h
    have h1 := h p List.mem_cons_self
    unfold crashF
    rw [if_neg (by simpa using h1)]
    refine crashF_skip ps (i + 1) b ?_
    unfold psOf
    rw [List.map_eq_nil_iff, List.filter_eq_nil_iff]
    exact fun a ha => h a (List.mem_cons_of_mem _ ha)
theorem crash_kf0 {j : Nm} {a : List UInt8} {d : Fd} (h : Kf j a [] d) (kept : Nat → Bool) (torn : Int) : Kf j a [] (crashD d kept torn) := by
  refine ⟨?_, rfl, ?_, fun p hp => by cases hp⟩
  · show atF (d.F.map fun f => (f.1, crashF kept (lastK kept d.P.length) torn f.1 d.P 0 f.2 [])) j = _
    rw [at_map]
    have hat := h.at_
    unfold atF at hat
    rw [Option.map_eq_some_iff] at hat
    obtain ⟨f, hf, rfl⟩ := hat
    have hn : f.1 = j := by simpa using List.find?_some hf
    rw [hf, Option.map_some, hn, crashF_skip _ _ _ h.ps]
  · show upN (d.F.map _)
    unfold upN
    rw [List.pairwise_map]
    exact h.up
/-- what is there in the end -/
theorem SL.last (h : SL dk La Lw su sw) (k1 k2 : Nat → Bool) (t1 t2 : Int) (a : Int) : ∃ G, (topenD (crashD (topenD (haltD (crashD dk k1 t1) a) nJ).2.2 k2 t2) nJ).1 = 0 ∧ (topenD (crashD (topenD (haltD (crashD dk k1 t1) a) nJ).2.2 k2 t2) nJ).2.1 = G ∧
    (topenD (topenD (crashD (topenD (haltD (crashD dk k1 t1) a) nJ).2.2 k2 t2) nJ).2.2 nJ).1 = 0 ∧ (topenD (topenD (crashD (topenD (haltD (crashD dk k1 t1) a) nJ).2.2 k2 t2) nJ).2.2 nJ).2.1 = G ∧
    (topenD (haltD (crashD dk k1 t1) a) nJ).1 = 0 ∧ ((su ≤ G.length ∧ G.length ≤ La.length ∧ La.take G.length = G) ∨ dk.dd = true ∧ sw ≤ G.length ∧ G.length ≤ Lw.length ∧ Lw.take G.length = G) := by
  obtain ⟨D, N, h1, h2, h3⟩ := h.st
  obtain ⟨m, t, hm, hr, hk⟩ := crash_kf h1 N rfl k1 t1
  have hlen : ∀ o ∈ D ++ N.take m, o.length ≤ 600 := fun o ho => h2 o (by
    rw [List.mem_append] at ho ⊢
    rcases ho with ho | ho
    · exact .inl ho
    · exact .inr (List.mem_of_mem_take ho))
  have hG := Rd10.rows hr (D ++ N.take m) hlen
  rw [List.flatMap_append] at hG
  obtain ⟨u, hu⟩ : ∃ u, u = ((D ++ N.take m).map fun o => (wrapL o).length).sum := ⟨_, rfl⟩
  rw [← hu] at hG
  obtain ⟨c1, c2, c3⟩ := crash_hl dk k1 t1
  obtain ⟨e1, e2, e3⟩ := halt_kf hk c2 a
  have ho2 : lenOk nJ = true := by decide
  have hon : oth nJ ≠ nJ := by decide
  obtain ⟨f0, f1, f2, -, f4⟩ := open_kf e1 e2 ho2 hon (G := D ++ N.take m) (u := u) (by rw [List.flatten_nil, List.append_nil]; exact hG)
  obtain ⟨b, hb, f5⟩ := f4 rfl
  have g1 := crash_kf0 f5 k2 t2
  obtain ⟨g2, -, -⟩ := crash_hl (topenD (haltD (crashD dk k1 t1) a) nJ).2.2 k2 t2
  obtain ⟨p0, p1, p2, -, p4⟩ := open_kf g1 g2 ho2 hon (G := D ++ N.take m) (u := u) (by rw [List.flatten_nil, List.append_nil]; exact hb)
  obtain ⟨b2, hb2, p5⟩ := p4 rfl
  obtain ⟨q0, q1, -⟩ := open_kf p5 p2 ho2 hon (G := D ++ N.take m) (u := u) (by rw [List.flatten_nil, List.append_nil]; exact hb2)
  refine ⟨D ++ N.take m, p0, p1, q0, q1, f0, ?_⟩
  have hl : (D ++ N.take m).length = D.length + m := by rw [List.length_append, List.length_take]; omega
  have ht : ∀ X, D ++ N = X → (D ++ N.take m).length ≤ X.length ∧ X.take (D ++ N.take m).length = D ++ N.take m := fun X hX => by
    rw [hl, ← hX, List.length_append, List.take_length_add_append]
    exact ⟨by omega, rfl⟩
  rcases h3 with ⟨h3, h4⟩ | ⟨h3, h4, h5⟩
  · exact .inl ⟨by omega, (ht _ h3).1, (ht _ h3).2⟩
  · exact .inr ⟨h3, by omega, (ht _ h4).1, (ht _ h4).2⟩
end

end Go.Proofs.YtiogckgchlnldaaGreat

/- Layer 10: heavy. -/
set_option linter.unusedSimpArgs false
set_option linter.unusedVariables false
namespace Go.Proofs.YtiogckgchlnldaaGreat
open Go.RowKit
set_option maxRecDepth 100000

/-- what is looked at -/
def goodT (o : OpT) : Prop := o.b.length ≤ 700 ∧ o.L.length ≤ 10 ∧ o.kp.length ≤ 40 ∧ ∀ x ∈ o.L, x.b.length ≤ 700
def Hv (w : World) (l : List OpT) (e : Ending) (w' : World) : Prop := ∃ r : Bool, e = .returned (.bool r) ∧ w' = w ∧ (r = false → l.length ≤ 30 ∧ ∀ o ∈ l, goodT o)
theorem Hv.yes (w : World) (l : List OpT) : Hv w l (.returned (.bool true)) w := ⟨true, rfl, rfl, fun h => by cases h⟩

set_option maxHeartbeats 8000000 in
theorem heavyT_any (V : Option Addr) (c : Nat) (l : List OpT) (w : World) (hV : Rw w encOpT 6 V l) (hL : ∀ o ∈ l, Rw w encBx 1 o.LA o.L) :
    Calls Tryz.prog 4 #[.slice V l.length c] w (Hv w l) := by
  obtain ⟨n, hn⟩ : ∃ n, n = l.length := ⟨_, rfl⟩
  have HT := Lib.hid (Hv.yes w l)
  rw [← hn]
  by_cases h30 : 30 < n
  · have hd : decide ((30 : Int) < (n : Int)) = true := decide_eq_true (by omega)
    clear hV hL hn
    go_enter Tryz.func4, Tryz.ntmps4
    go_wp2_with fail
    go_ret
    exact HT.out
  · have hd : decide ((30 : Int) < (n : Int)) = false := decide_eq_false (by omega)
    have hn30 : n ≤ 30 := by omega
    have HV := Lib.hid (And.intro hV (And.intro hL hn))
    clear hV hL hn h30
    go_enter Tryz.func4, Tryz.ntmps4
    go_wp2_with fail
    go_loop [3] (fun s => ∃ k : Nat, k ≤ n ∧ s = .int .i64 k ∧ Hid (∀ o ∈ l.take k, goodT o)) (fun s => n - (intOf s).toNat)
    case atStart => exact ⟨0, Nat.zero_le _, rfl, Lib.hid (by simp)⟩
    case round =>
      obtain ⟨k, hk, rfl, HR⟩ := hrel
      by_cases hlt : k < n
      · obtain ⟨o, ho⟩ : ∃ o, l[k]? = some o := ⟨_, List.getElem?_eq_getElem (by rw [← HV.out.2.2]; exact hlt)⟩
        obtain ⟨p, f, hAe, hc⟩ := HV.out.1 k o ho
        have hRL := HV.out.2.1 o (List.mem_of_getElem? ho)
        have c1 := hc 1 _ rfl
        have c2 := hc 2 _ rfl
        have c4 := hc 4 _ rfl
        subst hAe
        obtain ⟨bl, hbl⟩ : ∃ m, m = o.b.length := ⟨_, rfl⟩
        obtain ⟨kl, hkl⟩ : ∃ m, m = o.kp.length := ⟨_, rfl⟩
        obtain ⟨ll, hll⟩ : ∃ m, m = o.L.length := ⟨_, rfl⟩
        rw [← hbl] at c1
        rw [← hkl] at c4
        rw [← hll] at c2
        have hkln : (k : Int) < (n : Int) := by omega
        have hk0 : (0 : Int) ≤ (k : Int) := by omega
        have HX := Lib.hid (And.intro hRL (And.intro ho (And.intro hbl (And.intro hkl hll))))
        clear hc ho hbl hkl hll hRL
        by_cases t0 : 700 < bl
        · have d0 : decide ((700 : Int) < (bl : Int)) = true := decide_eq_true (by omega)
          go_wp2_with fail
          go_ret
          exact HT.out
        · have d0 : decide ((700 : Int) < (bl : Int)) = false := decide_eq_false (by omega)
          by_cases t1 : 10 < ll
          · have d1 : decide ((10 : Int) < (ll : Int)) = true := decide_eq_true (by omega)
            go_wp2_with fail
            go_ret
            exact HT.out
          · have d1 : decide ((10 : Int) < (ll : Int)) = false := decide_eq_false (by omega)
            by_cases t3 : 40 < kl
            · have d3 : decide ((40 : Int) < (kl : Int)) = true := decide_eq_true (by omega)
              go_wp2_with fail
              go_ret
              exact HT.out
            · have d3 : decide ((40 : Int) < (kl : Int)) = false := decide_eq_false (by omega)
              go_wp2_with fail
              go_loop [4] (fun s => ∃ j : Nat, j ≤ ll ∧ s = .int .i64 j ∧ Hid (∀ x ∈ o.L.take j, x.b.length ≤ 700)) (fun s => ll - (intOf s).toNat)
              case atStart => exact ⟨0, Nat.zero_le _, rfl, Lib.hid (by simp)⟩
              case round =>
                obtain ⟨j, hj, rfl, HJ⟩ := hrel
                by_cases hjl : j < ll
                · obtain ⟨x, hx⟩ : ∃ x, o.L[j]? = some x := ⟨_, List.getElem?_eq_getElem (by rw [← HX.out.2.2.2.2]; exact hjl)⟩
                  obtain ⟨p2, f2, hA2, hc2⟩ := HX.out.1 j x hx
                  have e0 := hc2 0 _ rfl
                  simp only [Nat.add_zero, Nat.mul_one] at e0
                  rw [hA2] at c2
                  obtain ⟨xn, hxn⟩ : ∃ m, m = x.b.length := ⟨_, rfl⟩
                  rw [← hxn] at e0
                  have hjn : (j : Int) < (ll : Int) := by omega
                  have hj0 : (0 : Int) ≤ (j : Int) := by omega
                  have HY := Lib.hid (And.intro hx hxn)
                  clear hc2 hx hxn hA2
                  by_cases t4 : 700 < xn
                  · have d4 : decide ((700 : Int) < (xn : Int)) = true := decide_eq_true (by omega)
                    go_wp2_with fail
                    go_ret
                    exact HT.out
                  · have d4 : decide ((700 : Int) < (xn : Int)) = false := decide_eq_false (by omega)
                    go_wp2_with fail
                    go_round
                    case measure => simp [intOf]; omega
                    case rel => exact ⟨j + 1, by omega, by go_num, Lib.hid (fun y hy => by
                      rw [List.take_add_one, HY.out.1, List.mem_append] at hy
                      rcases hy with h1 | h1
                      · exact HJ.out y h1
                      · simp at h1; subst h1; rw [← HY.out.2]; omega)⟩
                · obtain rfl : j = ll := by omega
                  have hkk : ¬ ((j : Int) < (j : Int)) := by omega
                  have HN : Hid (∀ o ∈ l.take (k + 1), goodT o) := Lib.hid (fun y hy => by
                    rw [List.take_add_one, HX.out.2.1, List.mem_append] at hy
                    rcases hy with h1 | h1
                    · exact HR.out y h1
                    · simp at h1
                      subst h1
                      refine ⟨by rw [← HX.out.2.2.1]; omega, by rw [← HX.out.2.2.2.2]; omega, by rw [← HX.out.2.2.2.1]; omega, fun x hx => HJ.out x ?_⟩
                      rw [List.take_of_length_le (Nat.le_of_eq HX.out.2.2.2.2.symm)]
                      exact hx)
                  go_wp2_with fail
                  go_round
                  case measure => simp [intOf]; omega
                  case rel => exact ⟨k + 1, by omega, by go_num, HN⟩
      · obtain rfl : k = n := by omega
        have hkk : ¬ ((k : Int) < (k : Int)) := by omega
        have HE : Hid (Hv w l (.returned (.bool false)) w) := Lib.hid ⟨false, rfl, rfl, fun _ => ⟨by rw [← HV.out.2.2]; exact hn30, by
          have := HR.out
          rw [List.take_of_length_le (Nat.le_of_eq HV.out.2.2.symm)] at this
          exact this⟩⟩
        go_wp2_with fail
        go_ret
        exact HE.out

end Go.Proofs.YtiogckgchlnldaaGreat

/- Layer 10: the walk of TapeReads. -/
set_option linter.unusedSimpArgs false
set_option linter.unusedVariables false
namespace Go.Proofs.YtiogckgchlnldaaGreat
open Go.RowKit
set_option maxRecDepth 100000

end Go.Proofs.YtiogckgchlnldaaGreat

/- Layer 10: the walk of TapeRows. -/
set_option linter.unusedSimpArgs false
set_option linter.unusedVariables false
namespace Go.Proofs.YtiogckgchlnldaaGreat
open Go.RowKit
set_option maxRecDepth 100000

theorem Bc.below {w w' : World} {A : Option Addr} {c : Nat} {b : List UInt8} (h : Bc w A c b) (k : Below w.heap.size w w') : Bc w' A c b := ⟨h.1.below k, h.2⟩
def sumW (L : List Bx) : Nat := (L.map fun x => (wrapL x.b).length).sum
theorem sumW_snoc (L : List Bx) (x : Bx) : sumW (L ++ [x]) = sumW L + (wrapL x.b).length := by unfold sumW; simp
theorem rows_sum (L : List Bx) : ((L.map Bx.b).map fun o => (wrapL o).length).sum = sumW L := by unfold sumW; rw [List.map_map]; rfl
theorem flat_len (L : List Bx) (h : ∀ x ∈ L, x.b.length ≤ 600) : ((L.map Bx.b).flatMap wrapL).length ≤ 610 * L.length := by
  induction L with
  | nil => simp
  | cons x L ih =>
    rw [List.map_cons, List.flatMap_cons, List.length_append, List.length_cons]
    have h1 := ih (fun y hy => h y (List.mem_cons_of_mem _ hy))
    have h2 := wrapL_600 (h x List.mem_cons_self)
    omega
theorem row_kept {w w' : World} {base size n : Nat} {e : TypeId} {v : Value} {xs : List Value} {r : Option Nat} (h : w.ownsRow base e size v n xs) (hg : w.grownBy w' r) (hr : ∀ k, r = some k → v.ownBlock ≠ some k) : w'.ownsRow base e size v n xs :=
  (Tou.of_grown (F := fun k => r = some k) hg (fun k e => e)).row h (fun k hk he => hr k he hk)
theorem diff_type {w : World} {b1 b2 n1 n2 s1 s2 : Nat} {v1 v2 : Value} {xs ys : List Value} (h1 : w.ownsRow b1 5 s1 v1 n1 xs) (h2 : w.ownsRow b2 22 s2 v2 n2 ys) : ∀ k, v1.ownBlock = some k → v2.ownBlock ≠ some k := fun k hk hk2 => by
  obtain ⟨c1, e1⟩ := home_of h1 hk
  obtain ⟨c2, e2⟩ := home_of h2 hk2
  exact absurd (only_of e1 e2) (by decide)
theorem flat_snoc (L : List Bx) (x : Bx) : ((L ++ [x]).map Bx.b).flatMap wrapL = (L.map Bx.b).flatMap wrapL ++ wrapL x.b := by simp

end Go.Proofs.YtiogckgchlnldaaGreat


/- Layer 10: the walk of TapeBack. -/
set_option linter.unusedSimpArgs false
set_option linter.unusedVariables false
namespace Go.Proofs.YtiogckgchlnldaaGreat
open Go.RowKit
set_option maxRecDepth 100000

theorem runs_st (d : Fd) : (runsD d).2.st = d.st := by unfold runsD; split <;> (try split) <;> simp_all
theorem st_if (d : Fd) (f : Fd → Fd) (hf : ∀ e, (f e).st = e.st) : (if (runsD d).1 = true then f (runsD d).2 else (runsD d).2).st = d.st := by
  split
  · rw [hf, runs_st]
  · exact runs_st d
theorem st_create (d : Fd) (n : Nm) : (createD d n).2.st = d.st := by
  unfold createD
  split
  · rfl
  · split
    · rfl
    · split
      · rfl
      · exact st_if d (fun e => { e with F := insF (n, []) e.F }) (fun _ => rfl)
theorem st_append (room : Int) (d : Fd) (n : Nm) (b : List UInt8) : (appendD room d n b).2.st = d.st := by
  unfold appendD
  split
  · rfl
  · split
    · rfl
    · split
      · rfl
      · exact st_if d (fun e => { e with P := e.P ++ [(n, b)] }) (fun _ => rfl)
theorem st_sync (d : Fd) (n : Nm) : (syncD d n).2.st = d.st := by
  unfold syncD
  cases rdD d n with
  | none => rfl
  | some b => exact st_if d (fun e => { e with F := setF n b e.F, P := dropN n e.P }) (fun _ => rfl)
theorem st_cut (d : Fd) (n : Nm) (k : Int) : (cutD d n k).2.st = d.st := by
  unfold cutD
  cases rdD d n with
  | none => rfl
  | some b =>
    dsimp only
    split
    · rfl
    · exact st_if d (fun e => { e with F := setF n (b.take k.toNat) e.F, P := dropN n e.P }) (fun _ => rfl)
theorem st_remove (d : Fd) (n : Nm) : (removeD d n).2.st = d.st := by
  unfold removeD
  split
  · rfl
  · exact st_if d (fun e => { e with F := dropN n e.F, P := dropN n e.P }) (fun _ => rfl)
theorem st_rename (d : Fd) (n m : Nm) : (renameD d n m).2.st = d.st := by
  unfold renameD
  cases atF d.F n with
  | none => rfl
  | some b =>
    dsimp only
    split
    · rfl
    · split
      · rfl
      · exact st_if d (fun e => { e with F := insF (m, b) (dropN n (dropN m e.F)), P := (dropN m e.P).map fun p => if p.1 == n then (m, p.2) else p }) (fun _ => rfl)
theorem st_apps (room : Int) (o : Nm) : ∀ (L : List (List UInt8)) (d : Fd), (appsD room o L d).2.st = d.st
  | [], _ => rfl
  | x :: xs, d => by
    unfold appsD
    split
    · exact st_append _ _ _ _
    · rw [st_apps room o xs, st_append]
theorem st_rewrite (room : Int) (d : Fd) (n : Nm) (L : List (List UInt8)) : (rewriteD room d n L).2.st = d.st := by
  unfold rewriteD
  split
  · exact st_create _ _
  · split
    · rw [st_apps, st_create]
    · split
      · rw [st_sync, st_apps, st_create]
      · rw [st_rename, st_sync, st_apps, st_create]
theorem st_swap (room : Int) (d : Fd) (n : Nm) (L : List (List UInt8)) : (swapD room d n L).2.st = d.st := by
  unfold swapD
  split
  · rfl
  · dsimp only
    split
    · rw [st_remove, st_rewrite, st_remove]
    · rw [st_rewrite, st_remove]
theorem st_open (d : Fd) (n : Nm) : (topenD d n).2.2.st = d.st := by
  unfold topenD
  split
  · rfl
  · split
    · exact st_remove _ _
    · dsimp only
      split
      · rw [st_cut, st_create, st_remove]
      · rw [st_create, st_remove]
theorem apps_k (room : Int) (o : Nm) : ∀ (L : List (List UInt8)) (d : Fd), (appsD room o L d).1 ≤ 1000
  | [], _ => Nat.zero_le _
  | x :: xs, d => by
    unfold appsD
    split
    · exact append_k _ _ _ _
    · exact apps_k room o xs _
theorem rewrite_k (room : Int) (d : Fd) (n : Nm) (L : List (List UInt8)) : (rewriteD room d n L).1 ≤ 1000 := by
  unfold rewriteD
  split
  · exact create_k _ _
  · split
    · exact apps_k _ _ _ _
    · split
      · exact sync_k _ _
      · exact rename_k _ _ _
theorem swap_k (room : Int) (d : Fd) (n : Nm) (L : List (List UInt8)) : (swapD room d n L).1 ≤ 1000 := by
  unfold swapD
  split
  · show (1 : Nat) ≤ 1000; omega
  · exact rewrite_k _ _ _ _
theorem append_ok {room : Int} {j : Nm} {a : List UInt8} {Q : List (List UInt8)} {d : Fd} (h : Kf j a Q d) (b : List UInt8) (hr : (usedD d : Int) + b.length ≤ room) : (appendD room d j b).1 = 0 := by
  unfold appendD
  rw [h.at_, if_neg (by simp), if_neg (by omega)]
  split <;> rfl
theorem kf_j : Kf nJ [] [] jd1 := ⟨by kernel_rfl, rfl, List.pairwise_singleton _ _, fun p hp => by cases hp⟩
theorem oth_ne (n : Nm) : oth n ≠ n := by
  intro h
  have := congrArg List.length h
  unfold oth at this
  simp at this
/-- the notes that are not too long -/
def okB (L : List Bx) : List Bx := L.filter fun x => decide (x.b.length ≤ 600)
theorem okB_yes (L : List Bx) (x : Bx) (h : x.b.length ≤ 600) : okB (L ++ [x]) = okB L ++ [x] := by unfold okB; rw [List.filter_append]; simp [h]
theorem okB_no (L : List Bx) (x : Bx) (h : 600 < x.b.length) : okB (L ++ [x]) = okB L := by unfold okB; rw [List.filter_append]; simp [show ¬ x.b.length ≤ 600 by omega]
theorem okB_le (L : List Bx) : (okB L).length ≤ L.length := List.length_filter_le _ _
theorem okB_mem {L : List Bx} {x : Bx} (h : x ∈ okB L) : x ∈ L ∧ x.b.length ≤ 600 := by
  obtain ⟨h1, h2⟩ := List.mem_filter.1 h
  exact ⟨h1, of_decide_eq_true h2⟩
theorem rd_okB (K : List Bx) (h : ∀ x ∈ K, x.b.length ≤ 600) : ∃ u, Rd10 (([] : List UInt8) ++ (K.map fun x : Bx => wrapL x.b).flatten) (K.map Bx.b) u ∧ u = (([] : List UInt8) ++ (K.map fun x : Bx => wrapL x.b).flatten).length := by
  have h1 := Rd10.rows Rd10.nil (K.map Bx.b) (fun o ho => by
    obtain ⟨x, hx, rfl⟩ := List.mem_map.1 ho
    exact h x hx)
  rw [List.append_nil, List.flatMap_def, List.map_map] at h1
  refine ⟨_, by rw [List.nil_append]; exact h1, ?_⟩
  rw [List.nil_append, List.length_flatten, List.map_map, List.map_map]
  rfl

end Go.Proofs.YtiogckgchlnldaaGreat
