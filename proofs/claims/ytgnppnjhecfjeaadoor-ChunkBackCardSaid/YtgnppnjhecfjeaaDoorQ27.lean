/- Joined: Chk17, Chk18, Chk19, Chk20, Chk21, Chk22. -/
import Derived.Test.YtgnppnjhecfjeaaDoorQ26
import Derived.RegionIn
import Derived.Test.YtgnppnjhecfjeaaDoorQ22
import Derived.Test.YtgnppnjhecfjeaaDoorQ24
set_option linter.unusedSimpArgs false
set_option linter.unusedVariables false
/- Layer 6: the contract of the program's readings; what a loop over them keeps. -/
namespace Go.Proofs.YtgnppnjhecfjeaaDoor
open Go.RowKit Go.Shelf
set_option maxRecDepth 100000

theorem creadings_any (A : Option Addr) (k c : Nat) (nb : Int) (w : World) :
    Calls Tryd.prog 59 #[.agg #[.slice A k c, .int .i64 nb]] w fun e w' => e = .returned (.func (.func 80) #[] #[.pointer (some ⟨w.heap.size, 0, none⟩)]) ∧ w' = w.alloc (.cells #[.slice A k c, .int .i64 nb] 24) := by
  go_enter Tryd.func59, Tryd.ntmps59
  go_wp2
  go_ret
  exact ⟨rfl, rfl⟩

def encI (x : Int) : List Value := [.int .i64 x]
theorem Tryd.eltI : Elt Tryd.prog 67 3 encI 1 8 := ⟨Tryd.underlying67, ⟨.int .i64 0, by kernel_rfl, rfl⟩, by decide, fun _ => rfl, fun x v h => by
  simp [encI] at h
  subst h
  rfl⟩

theorem Blk.only {W : World} {g : Nat} {t u : TypeId} {cs cs' : Array Value} (h : Blk W g t cs) (ht : t ≠ u) : ¬ Blk W g u cs' := fun k => by
  have e := Option.some.inj (h.symm.trans k)
  injection e with _ e2 _
  exact ht e2
theorem OwnR.home {W : World} {α : Type} {base sz : Nat} {e : TypeId} {enc : α → List Value} {v : Value} {l : List α} (h : OwnR W base e enc sz v l) {k : Nat} (hk : v.ownBlock = some k) : base ≤ k ∧ ∃ cs, Blk W k e cs := by
  rcases h.2 with ⟨rfl, _⟩ | ⟨g, cap, cur, rfl, hbg, hgg, _⟩
  · cases hk
  · cases hk
    exact ⟨hbg, cur, hgg⟩

section
variable {n0 : Nat}
theorem KpR.trans {A B C : World} (h : KpR n0 A B) (k : KpR n0 B C) : KpR n0 A C := ⟨h.below.trans k.below, fun i cs b => k.rd i cs (h.rd i cs b), fun i cs b => k.bits i cs (h.bits i cs b)⟩
theorem KpR.of_below {W W' : World} (h : Below W.heap.size W W') (hn : n0 ≤ W.heap.size) : KpR n0 W W' := ⟨h.mono hn, fun _ _ b => b.below h b.lt, fun _ _ b => b.below h b.lt⟩
theorem KpR.put {W : World} {l : Nat} {o : Obj} (o' : Obj) (hn : n0 ≤ l) (hl : W.heap[l]? = some o) (ho : o.isCells = false) : KpR n0 W (W.putObj l o') := by
  have hg := grownBy_putObj' W l o'
  have hlt := (Array.getElem?_eq_some_iff.1 hl).1
  have hk : ∀ k t cs, Blk W k t cs → (some l : Option Nat) ≠ some k := fun k t cs b e => by
    injection e with e
    subst e
    have := hl.symm.trans b
    injection this with this
    subst this
    cases ho
  exact ⟨(Below.refl n0 W).grown hg (by omega) (fun k e => by injection e with e; omega), fun k cs b => b.kept hg (hk k _ cs b), fun k cs b => b.kept hg (hk k _ cs b)⟩

/-- a round's steps: stores into cells that are neither readings nor bits, and into what is new -/
structure KpK (n0 : Nat) (W0 w : World) : Prop where
  kp : KpR n0 W0 w
  sz : W0.heap.size ≤ w.heap.size
  oth : ∀ (k : Nat) (o : Obj), W0.heap[k]? = some o → o.isCells = false → w.heap[k]? = some o
  n0le : n0 ≤ w.heap.size
def apK (n0 : Nat) (W0 : World) (g : Nat) : Prop := n0 ≤ g ∧ (W0.heap.size ≤ g ∨ ∃ t cs, t ≠ 103 ∧ t ≠ 24 ∧ Blk W0 g t cs)
theorem KpK.refl {W : World} (h : n0 ≤ W.heap.size) : KpK n0 W W := ⟨.of_below (Below.refl _ _) h, Nat.le_refl _, fun _ _ h _ => h, h⟩
theorem KpK.keeps {W w : World} (h : KpK n0 W w) (B : Nat) : KeepsFrom B W w := ⟨h.sz, fun k o _ ho hc => h.oth k o ho hc⟩
def qK (n0 : Nat) (W0 : World) : Kq := ⟨fun w => KpK n0 W0 w, fun g => apK n0 W0 g, fun _ => True, (fun w w' r h hg ha => by
  have ne : ∀ k t cs, Blk W0 k t cs → (t = 103 ∨ t = 24) → r ≠ some k := fun k t cs b ht e => by
    obtain ⟨_, h1 | ⟨t', cs', h1, h2, h3⟩⟩ := ha k e
    · have := b.lt; omega
    · rcases ht with rfl | rfl
      · exact h3.only h1 b
      · exact h3.only h2 b
  refine ⟨⟨h.kp.below.grown hg h.n0le (fun g e => (ha g e).1), fun k cs b => (h.kp.rd k cs b).kept hg (ne k _ cs b (.inl rfl)), fun k cs b => (h.kp.bits k cs b).kept hg (ne k _ cs b (.inr rfl))⟩, Nat.le_trans h.sz hg.size, fun k o ho hc => ?_, Nat.le_trans h.n0le hg.size⟩
  have h1 := h.oth k o ho hc
  refine (hg.block k (Array.getElem?_eq_some_iff.1 h1).1 (fun e => ?_)).trans h1
  obtain ⟨_, h2 | ⟨t', cs', _, _, h3⟩⟩ := ha k e.symm
  · have := (Array.getElem?_eq_some_iff.1 ho).1; omega
  · have := ho.symm.trans h3
    injection this with this
    subst this
    cases hc), fun _ _ => trivial⟩
end

theorem creadings_seq (n : Nat) (hn : 1 ≤ n) (Bn : Nat) (w w1 : World) (A : Option Addr) (c : Nat) (bs : List UInt8) (nb : Int) (hbs : Bs w A bs) (hnb : in64 nb) (hlen : bs.length ≤ 100000) (hT : Tab w)
    (hb : Below w.heap.size w w1) (hB : Blk w1 Bn 24 #[.slice A bs.length c, .int .i64 nb]) :
    SeqT Fence.wide n Tryd.prog 103 80 #[.pointer (some ⟨Bn, 0, none⟩)] (fun x : RC => #[.agg x.cells]) (KpR w.heap.size) (fun ys => ys = rdsC bs nb) (fun pre => pre <+: rdsC bs nb) 800001 w1 := by
  intro l J Jx W hW hJ _ hY h0
  exact rds1_in n hn l Bn w A c bs nb hbs hnb hlen hT J Jx W hJ hY (hb.trans (hW.mono hb.size)) (hB.below hW hB.lt) h0

/-- what is appended is of the call's own, within a fence -/
theorem appR1In {F : Fence} {n : Nat} {P : Program} {α : Type} {t e : TypeId} {enc : α → List Value} {sz bytes : Nat} (E : Elt P t e enc sz bytes) (w : World) {ops : Array Oper} {rest : List Oper} {o : Oper} {a : Act} {Q : Exit → Act → World → Prop} (hgd : o.guard = none) (s x : Operand)
    (ho : o.op = .call { callee := .builtin .append, args := #[s, x], argTypes := #[t, t] })
    (base : Nat) (v : Value) (L : List α) (hs : a.eval s = v) (hown : OwnR w base e enc sz v L) (g c : Nat) (y : α) (u : TypeId) (cs : Array Value)
    (hx : a.eval x = .slice (some ⟨g, 0, none⟩) 1 c) (hb : Blk w g u cs) (hcs : cs = (enc y).toArray) (hlen : L.length + 1 ≤ maxLen) (hbytes : (L.length + 1) * bytes ≤ 140737488355328) (hbase : base ≤ w.heap.size)
    (h : ∀ g' c' w', OwnR w' base e enc sz (.slice (some ⟨g', 0, none⟩) (L.length + 1) c') (L ++ [y]) → w.grownBy w' v.ownBlock → base ≤ g' → wpListIn F n P ops Q rest (a.put o.dst (.slice (some ⟨g', 0, none⟩) (L.length + 1) c')) w') : wpListIn F n P ops Q (o :: rest) a w := by
  subst hcs
  obtain ⟨z, hinfo, hzs⟩ := E.info
  obtain ⟨i, hi, hz, hsz, hby⟩ := info_parts hinfo
  refine wpListIn_append_own (P := P) w hgd s x t ho base e i z sz bytes E.under hi hz hsz hby hzs E.pos v L.length (L.flatMap enc) hs hown ⟨g, 0, none⟩ 1 c (enc y) hx (by rw [E.len, Nat.one_mul]) ?_ (E.one y) hlen hbytes hbase fun v' w' h2 h3 _ => ?_
  · intro j u hj
    rw [addS, hb.cell, Nat.zero_add]
    simpa using hj
  · have h4 : OwnR w' base e enc sz v' (L ++ [y]) := by unfold OwnR; rw [List.length_append, List.flatMap_append]; simpa using h2
    rcases h4.2 with ⟨_, h0⟩ | ⟨g', cap, cur, hv, hg, _⟩
    · simp at h0
    · rw [List.length_append] at hv
      subst hv
      exact h g' cap w' h4 h3 hg

/-- what All and Ends say -/
theorem got_c (l : List UInt8) (m : Nat) (e : EC) (a : Int) : (gotC l m e a).c = 0 ∨ (gotC l m e a).c = 61 := by
  unfold gotC
  split
  · exact .inr rfl
  · split
    · exact .inr rfl
    · exact .inl rfl
theorem rdC_bad (l : List UInt8) (m : Nat) : ∀ f e a x, x ∈ rdC l m f e a → x.c ≠ 0 → x.c = 61
  | 0, _, _, _, h, _ => by simp [rdC] at h
  | f + 1, e, a, x, h, hc => by
    unfold rdC at h
    split at h
    · cases h
    · rcases List.mem_cons.1 h with rfl | h
      · exact (got_c l m e a).resolve_left hc
      · split at h
        · exact rdC_bad l m f _ _ x h hc
        · cases h
def allC (l : List UInt8) (nb : Int) : List RC × Nat := if soundB l nb = false then ([], 11) else if ∀ x ∈ rdsC l nb, x.c = 0 then (rdsC l nb, 0) else ([], 61)
theorem all_done {l : List UInt8} {nb : Int} (h : ∀ x ∈ rdsC l nb, x.c = 0) : allC l nb = (rdsC l nb, 0) := by
  unfold allC
  split
  · rename_i hs
    unfold rdsC at h
    rw [if_pos hs] at h
    have := h _ List.mem_cons_self
    simp [rc0] at this
  · first | rfl | rw [if_pos h]
theorem all_stop {l : List UInt8} {nb : Int} {x : RC} (h : x ∈ rdsC l nb) (hc : x.c ≠ 0) : allC l nb = ([], x.c) := by
  unfold allC
  split
  · rename_i hs
    unfold rdsC at h
    rw [if_pos hs, List.mem_singleton] at h
    subst h
    rfl
  · rename_i hs
    have hn : ¬ ∀ x ∈ rdsC l nb, x.c = 0 := fun h2 => hc (h2 x h)
    try rw [if_neg hn]
    unfold rdsC at h
    rw [if_neg hs] at h
    rw [rdC_bad _ _ _ _ _ _ h hc]

end Go.Proofs.YtgnppnjhecfjeaaDoor

/- Layer 6: the program's Ends. -/
namespace Go.Proofs.YtgnppnjhecfjeaaDoor
open Go.RowKit Go.Shelf
set_option maxRecDepth 100000

attribute [local go_sem] Oper.semAt_some

set_option maxHeartbeats 4000000 in
theorem cends_any (A : Option Addr) (c : Nat) (bs : List UInt8) (nb : Int) (w : World) (hbs : Bs w A bs) (hnb : in64 nb) (hlen : bs.length ≤ 100000) (hT : Tab w) :
    Calls Tryd.prog 32 #[.agg #[.slice A bs.length c, .int .i64 nb]] w fun e w' => ∃ v, e = .returned (.tuple #[v, .int .u16 (allC bs nb).2]) ∧ OwnR w' w.heap.size 3 encI 1 v ((allC bs nb).1.map (·.nd)) ∧ Below w.heap.size w w' := by
  have hmx : Tryd.prog.follows .mixedOrders = true := by kernel_rfl
  have hd1 : 1 ≤ 3 - 1 - 1 := by decide
  obtain ⟨R, hR⟩ : ∃ R, R = allC bs nb := ⟨_, rfl⟩
  rw [← hR]
  have HR := Lib.hid hR
  have HB := Lib.hid hbs
  have HT := Lib.hid hT
  have HN := Lib.hid hnb
  have HL := Lib.hid hlen
  clear hbs hT hR hnb hlen
  refine (callsIn_wide (n := 3)).1 ?_
  refine callsIn_of_wp_marks Tryd.func32 rfl trivial ?_ rfl
  simp only [Tryd.ntmps32, List.size_toArray, List.length_cons, List.length_nil, Nat.reduceAdd, Nat.reduceSub, Array.replicate_succ, Array.replicate_zero, List.push_toArray, List.append_toArray, List.nil_append, List.cons_append]
  gi_wp2_with (refine ⟨trivial, ?_⟩; gi_at_call 59; refine (callsIn_wide.2 (creadings_any A bs.length c nb _)).mono ?_; rintro e w1 ⟨rfl, rfl⟩)
  have K := (((((Qs.zero w).box #[.slice A bs.length c, .int .i64 nb] 24).box #[.slice none 0 0] 67).box #[.int .u16 0] 30).box #[.slice none 0 0] 67).box #[.slice A bs.length c, .int .i64 nb] 24
  simp only [World.size_alloc] at K
  generalize hW0 : World.alloc _ _ = W0
  rw [hW0] at K
  have z0 : W0.heap.size = w.heap.size + 1 + 1 + 1 + 1 + 1 := by rw [← hW0]; simp only [World.size_alloc]
  have HK := Lib.hid K
  clear K hW0
  obtain ⟨b0, hb0⟩ : ∃ b0, b0 = w.heap.size := ⟨_, rfl⟩
  have n1 : (67 : TypeId) ≠ 103 := by decide
  have n2 : (30 : TypeId) ≠ 103 := by decide
  have n3 : (3 : TypeId) ≠ 103 := by decide
  refine wpIn_rangeT 103 rfl (by omega) (gf := 80) (lb := #[.pointer (some ⟨w.heap.size + 1 + 1 + 1 + 1, 0, none⟩)]) rfl trivial (enters_of Tryd.func80 (by kernel_rfl) rfl)
    (creadings_seq 2 (by decide) _ w W0 A c bs nb HB.out HN.out HL.out HT.out (HK.out.top 5) (HK.out.blk 0)) (fun _ _ _ h k => h.trans k) (fun W l o o' hl ho hc => KpR.put o' (by omega) ho hc) (Below.refl _ _) (fun _ => rfl)
    (fun pre W => Below w.heap.size w W ∧ Blk W (w.heap.size + 1) 67 #[.slice none 0 0] ∧ Blk W (w.heap.size + 1 + 1) 30 #[.int .u16 0] ∧ (∃ v, Blk W (w.heap.size + 1 + 1 + 1) 67 #[v] ∧ OwnR W W0.heap.size 3 encI 1 v (pre.map (·.nd))) ∧ (∀ x ∈ pre, x.c = 0) ∧ W0.heap.size ≤ W.heap.size)
    (fun cd pre W => cd = .ret ∧ (∃ x ∈ pre, x.c ≠ 0 ∧ Blk W (w.heap.size + 1 + 1) 30 #[.int .u16 x.c]) ∧ Below w.heap.size w W ∧ Blk W (w.heap.size + 1) 67 #[.slice none 0 0])
    (fun x a' W => ∃ g, W0.heap.size ≤ g ∧ a' = { tmps := #[.agg #[.slice A bs.length c, .int .i64 nb], .pointer (some ⟨w.heap.size, 0, none⟩), .pointer (some ⟨w.heap.size + 1, 0, none⟩), .pointer (some ⟨w.heap.size + 1 + 1, 0, none⟩), .pointer (some ⟨w.heap.size + 1 + 1 + 1, 0, none⟩), .pointer (some ⟨g, 0, none⟩), .agg #[.slice A bs.length c, .int .i64 nb], .func (.func 80) #[] #[.pointer (some ⟨w.heap.size + 1 + 1 + 1 + 1, 0, none⟩)], .agg x.cells, undef, undef, undef, undef, undef, undef, undef, undef, undef, undef, undef], defers := [] } ∧ Blk W g 103 x.cells)
    (fun s B C h k => ⟨k.below h.1 (by omega) h.1.size, k.blk h.2.1 (.inl n1), k.blk h.2.2.1 (.inl n2), h.2.2.2.1.elim fun v hv => ⟨v, k.blk hv.1 (.inl n1), k.row hv.2 n3⟩, h.2.2.2.2.1, Nat.le_trans h.2.2.2.2.2 k.size⟩)
    (fun cd s B C h k => ⟨h.1, h.2.1.elim fun x hx => ⟨x, hx.1, hx.2.1, k.blk hx.2.2 (.inl n2)⟩, k.below h.2.2.1 (by omega) h.2.2.1.size, k.blk h.2.2.2 (.inl n1)⟩)
    ⟨HK.out.top 5, HK.out.blk 3, HK.out.blk 2, ⟨_, HK.out.blk 1, OwnR.nil _ _ _ _ _⟩, (fun x h => by cases h), Nat.le_refl _⟩
    (fun x a' W l o o' hl hc h => h.elim fun g hg => ⟨g, hg.1, hg.2.1, hg.2.2.kept (grownBy_putObj' W l o') (fun e => by
      injection e with e
      subst e
      have := hl.symm.trans hg.2.2
      injection this with this
      subst this
      cases hc)⟩)
    ?assign ?body ?done ?stop
  case assign =>
    rintro l pre x W KK ⟨tB, b1, b2, ⟨v, b3, hrow⟩, hgood, hz⟩ hzz hK
    obtain ⟨rt, rv, rn, ⟨en, el, ed, ⟨eh, ep, eL, eX⟩⟩, rc⟩ := x
    have b5 := below_alloc W (.cells (RC.cells ⟨rt, rv, rn, ⟨en, el, ed, ⟨eh, ep, eL, eX⟩⟩, rc⟩) 103)
    have bn := Blk.new W 103 (RC.cells ⟨rt, rv, rn, ⟨en, el, ed, ⟨eh, ep, eL, eX⟩⟩, rc⟩)
    simp only [RC.cells] at hK b5 bn ⊢
    gi_wp2
    refine hK _ _ ⟨b5.size, fun k o _ ho _ => (b5.block k (Array.getElem?_eq_some_iff.1 ho).1).trans ho⟩ (KpR.of_below b5 tB.size) ⟨tB.trans (b5.mono tB.size), b1.below b5 b1.lt, b2.below b5 b2.lt, ⟨v, b3.below b5 b3.lt, hrow.below b5⟩, hgood, Nat.le_trans hz b5.size⟩ ⟨W.heap.size, hz, rfl, bn⟩
  case body =>
    rintro ll pre x a' W ⟨tB, b1, b2, ⟨v, b3, hrow⟩, hgood, hz⟩ ⟨g, hg, rfl, bg⟩ hlt
    obtain ⟨rt, rv, rn, ⟨en, el, ed, ⟨eh, ep, eL, eX⟩⟩, rc⟩ := x
    simp only [RC.cells] at bg ⊢
    have K := (((((Qs.nil W).cons (k := qK w.heap.size W) (KpK.refl tB.size)).cons (k := qW w w.heap.size (Nat.le_refl _)) ⟨tB, tB.size⟩).cons (k := qB _ _ _) b1).cons (k := qB _ _ _) b2).cons (k := qB _ _ _) b3 |>.cons (k := qB _ _ _) bg
    have HK := Lib.hid K
    have C := K.says
    simp only [sayAll, cellsSay, qB, qW, qO, qR, qZ, qK, Nat.reduceAdd, and_true, true_and] at C
    have a1 : apK w.heap.size W (w.heap.size + 1) := ⟨by omega, .inr ⟨_, _, by decide, by decide, b1⟩⟩
    have a2 : apK w.heap.size W (w.heap.size + 1 + 1) := ⟨by omega, .inr ⟨_, _, by decide, by decide, b2⟩⟩
    have a3 : apK w.heap.size W (w.heap.size + 1 + 1 + 1) := ⟨by omega, .inr ⟨_, _, by decide, by decide, b3⟩⟩
    have ao : ∀ k, v.ownBlock = some k → g ≠ k ∧ W0.heap.size ≤ k ∧ apK w.heap.size W k := fun k e => by
      obtain ⟨h1, cs, h2⟩ := hrow.home e
      exact ⟨fun e2 => by subst e2; exact h2.only n3 bg, h1, by omega, .inr ⟨_, _, by decide, by decide, h2⟩⟩
    have Ha1 := Lib.hid a1
    have Ha2 := Lib.hid a2
    have Ha3 := Lib.hid a3
    have Hao := Lib.hid ao
    have Hrow := Lib.hid hrow
    have Hgood := Lib.hid hgood
    have Hlen : Hid ((pre.map (·.nd)).length < 800001) := Lib.hid (by rw [List.length_map]; exact hlt)
    obtain ⟨nds, hnds⟩ : ∃ nds, nds = pre.map (·.nd) := ⟨_, rfl⟩
    rw [← hnds] at Hrow Hlen
    have Hnds := Lib.hid hnds
    clear K a1 a2 a3 ao hrow hgood hnds b1 b2 b3 bg tB
    by_cases hc : rc = 0
    · subst hc
      gi_wp2_with (gi_at_builtin; refine appR1In Tryd.eltI _ rfl (.tmp 14) (.tmp 17) rfl W0.heap.size v nds rfl (Hrow.out.alloc _) W.heap.size 1 rn 3 _ rfl (Blk.new W _ _) rfl (by have := Hlen.out; unfold maxLen; omega) (by have := Hlen.out; omega) (by simp; omega) ?_; intro g2 c2 w2 hown2 hgr2 hb2; have HK2 := Lib.hid (((HK.out.alloc _).grow hgr2 (fun k e => by obtain ⟨e1, e2, e3⟩ := Hao.out k e; simp only [apAll, qB, qW, qK, e3, and_true]; omega)).row_ hown2); have C2 := HK2.out.says; simp only [sayAll, cellsSay, qB, qW, qO, qR, qZ, qK, Nat.reduceAdd, and_true, true_and] at C2; clear hgr2)
      generalize hW5 : World.setCell _ _ _ = W5
      have K5 := HK2.out.putTo 2 (w.heap.size + 1 + 1 + 1) [(0, .slice (some ⟨g2, 0, none⟩) (nds.length + 1) c2)] #[.slice (some ⟨g2, 0, none⟩) (nds.length + 1) c2] hW5 (by simp only [apBut, apAll, qB, qW, qO, qR, qZ, qK, Ha3.out, and_true]; omega)
      have kk := K5.get 6 rfl
      refine ⟨KpK.keeps kk _, KpK.kp kk, K5.top 5, K5.blk 4, K5.blk 3, ⟨_, K5.blk 2, ?_⟩, ?_, Nat.le_trans hz (KpK.sz kk)⟩
      · rw [List.map_append, ← Hnds.out]
        exact K5.row 0
      · intro y hy
        rcases List.mem_append.1 hy with h | h
        · exact Hgood.out y h
        · rw [List.mem_singleton.1 h]
    · have kc : ((rc : Int) == 0) = false := beq_eq_false_iff_ne.2 (by omega)
      have kd : ((rc : Int) != 0) = true := by simpa using hc
      gi_wp2
      gi_region
      all_goals
        gi_wp2
        generalize hW5 : World.setCell _ _ _ = W5
        have K5 := ((HK.out.put 3 (w.heap.size + 1) [(0, .slice none 0 0)] #[.slice none 0 0] (by simp only [apBut, apAll, qB, qW, qO, qR, qZ, qK, Ha1.out, and_true]; omega)).putTo 2 (w.heap.size + 1 + 1) [(0, .int .u16 rc)] #[.int .u16 rc] hW5 (by simp only [List.set, apBut, apAll, qB, qW, qO, qR, qZ, qK, Ha2.out, and_true]; omega)).drew
        simp only [List.set] at K5
        exact ⟨KpK.keeps (K5.get 5 rfl) _, rfl, ⟨_, List.mem_append_right _ (List.mem_singleton.2 rfl), hc, K5.blk 2⟩, K5.top 4, K5.blk 3⟩
  case done =>
    rintro D ys W hD hys ⟨tB, b1, b2, ⟨v, b3, hrow⟩, hgood, hz⟩ hK
    subst hys
    have hRe := HR.out.trans (all_done hgood)
    subst hRe
    obtain ⟨V, m, rfl, -⟩ := hrow.row Tryd.eltI
    have K := (((((Qs.nil W).cons (k := qK w.heap.size W) (KpK.refl tB.size)).cons (k := qW w w.heap.size (Nat.le_refl _)) ⟨tB, tB.size⟩).cons (k := qB _ _ _) b1).cons (k := qB _ _ _) b2).cons (k := qB _ _ _) b3 |>.row_ hrow
    have HK := Lib.hid K
    have C := K.says
    simp only [sayAll, cellsSay, qB, qW, qO, qR, qZ, qK, Nat.reduceAdd, and_true, true_and] at C
    have Ha1 := Lib.hid (show apK w.heap.size W (w.heap.size + 1) from ⟨by omega, .inr ⟨_, _, by decide, by decide, b1⟩⟩)
    have Ha2 := Lib.hid (show apK w.heap.size W (w.heap.size + 1 + 1) from ⟨by omega, .inr ⟨_, _, by decide, by decide, b2⟩⟩)
    obtain ⟨nds, hnds⟩ : ∃ nds, nds = (rdsC bs nb).map (·.nd) := ⟨_, rfl⟩
    rw [← hnds] at C HK
    have Hnds := Lib.hid hnds
    have HD := Lib.hid hK
    clear K hgood hnds b1 b2 b3 tB hrow HR hK
    gi_wp2
    generalize hW5 : World.setCell _ _ _ = W5
    have K5 := ((HK.out.put 3 (w.heap.size + 1) [(0, .slice V nds.length m)] #[.slice V nds.length m] (by simp only [apBut, apAll, qB, qW, qO, qR, qZ, qK, Ha1.out, and_true]; omega)).putTo 2 (w.heap.size + 1 + 1) [(0, .int .u16 0)] #[.int .u16 0] hW5 (by simp only [List.set, apBut, apAll, qB, qW, qO, qR, qZ, qK, Ha2.out, and_true]; omega))
    simp only [List.set] at K5
    have hD5 := KpK.oth (K5.get 5 rfl) D _ HD.out rfl
    have K6 := ((((Qs.nil W5).cons (K5.get 4 rfl)).cons (K5.get 3 rfl)).cons (K5.get 2 rfl)).grow (grownBy_putObj' W5 D (.deferred none)) (fun k e => by injection e with e; subst e; simp only [apAll, qB, qW, and_true]; omega)
    have C6 := K6.says
    simp only [sayAll, cellsSay, qB, qW, qO, qR, qZ, qK, Nat.reduceAdd, and_true, true_and] at C6
    refine ⟨by simp, .inl ⟨_, _, rfl, run_takeDeferred hD5, ?_⟩⟩
    refine ⟨.tuple #[.slice V nds.length m, .int .u16 0], by simp [results, Tryd.results32, go_sem, C6], ?_⟩
    refine ⟨_, rfl, ?_, K6.top 2⟩
    rw [← Hnds.out]
    exact OwnR.mono (show OwnR _ W0.heap.size 3 encI 1 _ nds from ownsRow_putObj (K5.row 0) _ hD5 rfl) (by omega)
  case stop =>
    rintro D cd pre W hD hp ⟨rfl, ⟨x, hx, hne, b2⟩, tB, b1⟩ hK
    have hRe := HR.out.trans (all_stop (hp.subset hx) hne)
    subst hRe
    gi_wp2
    have K6 := ((((Qs.nil W).cons (k := qW w w.heap.size (Nat.le_refl _)) ⟨tB, tB.size⟩).cons (k := qB _ _ _) b1).cons (k := qB _ _ _) b2).grow (grownBy_putObj' W D (.deferred none)) (fun k e => by injection e with e; subst e; simp only [apAll, qB, qW, and_true]; omega)
    have C6 := K6.says
    simp only [sayAll, cellsSay, qB, qW, qO, qR, qZ, qK, Nat.reduceAdd, and_true, true_and] at C6
    refine ⟨by simp, .inl ⟨_, _, rfl, run_takeDeferred hK, ?_⟩⟩
    exact ⟨.tuple #[.slice none 0 0, .int .u16 x.c], by simp [results, Tryd.results32, go_sem, C6], _, rfl, OwnR.nil _ _ _ _ _, K6.top 2⟩

end Go.Proofs.YtgnppnjhecfjeaaDoor

/- Layer 6: the program's All. -/
namespace Go.Proofs.YtgnppnjhecfjeaaDoor
open Go.RowKit Go.Shelf
set_option maxRecDepth 100000

attribute [local go_sem] Oper.semAt_some

def lastE (l : List RC) : EC := match l.getLast? with
  | some x => x.e
  | none => ec0
theorem lastE_snoc (l : List RC) (x : RC) : lastE (l ++ [x]) = x.e := by simp [lastE]
def smpR (x : RC) : Int × Nat := (x.t, x.v)

set_option maxHeartbeats 4000000 in
theorem call_any (A : Option Addr) (c : Nat) (bs : List UInt8) (nb : Int) (w : World) (hbs : Bs w A bs) (hnb : in64 nb) (hlen : bs.length ≤ 100000) (hT : Tab w) :
    Calls Tryd.prog 30 #[.agg #[.slice A bs.length c, .int .i64 nb]] w fun e w' => ∃ v, e = .returned (.tuple #[v, .agg #[.int .i64 (lastE (allC bs nb).1).n, .int .i64 (lastE (allC bs nb).1).last, .int .i64 (lastE (allC bs nb).1).delta, .bool (lastE (allC bs nb).1).val.has, .int .u64 (lastE (allC bs nb).1).val.prev, .int .u8 (lastE (allC bs nb).1).val.lead, .int .u8 (lastE (allC bs nb).1).val.width], .int .u16 (allC bs nb).2]) ∧ OwnR w' w.heap.size 53 smp 2 v ((allC bs nb).1.map smpR) ∧ Below w.heap.size w w' := by
  have hmx : Tryd.prog.follows .mixedOrders = true := by kernel_rfl
  have hd1 : 1 ≤ 3 - 1 - 1 := by decide
  obtain ⟨R, hR⟩ : ∃ R, R = allC bs nb := ⟨_, rfl⟩
  rw [← hR]
  have HR := Lib.hid hR
  have HB := Lib.hid hbs
  have HT := Lib.hid hT
  have HN := Lib.hid hnb
  have HL := Lib.hid hlen
  clear hbs hT hR hnb hlen
  refine (callsIn_wide (n := 3)).1 ?_
  refine callsIn_of_wp_marks Tryd.func30 rfl trivial ?_ rfl
  simp only [Tryd.ntmps30, List.size_toArray, List.length_cons, List.length_nil, Nat.reduceAdd, Nat.reduceSub, Array.replicate_succ, Array.replicate_zero, List.push_toArray, List.append_toArray, List.nil_append, List.cons_append]
  gi_wp2_with (refine ⟨trivial, ?_⟩; gi_at_call 59; refine (callsIn_wide.2 (creadings_any A bs.length c nb _)).mono ?_; rintro e w1 ⟨rfl, rfl⟩)
  have K := (((((((Qs.zero w).box #[.slice A bs.length c, .int .i64 nb] 24).box #[.slice none 0 0] 45).box #[.int .i64 0, .int .i64 0, .int .i64 0, .bool false, .int .u64 0, .int .u8 0, .int .u8 0] 48).box #[.int .u16 0] 30).box #[.slice none 0 0] 45).box #[.int .i64 0, .int .i64 0, .int .i64 0, .bool false, .int .u64 0, .int .u8 0, .int .u8 0] 48).box #[.slice A bs.length c, .int .i64 nb] 24
  simp only [World.size_alloc] at K
  generalize hW0 : World.alloc _ _ = W0
  rw [hW0] at K
  have z0 : W0.heap.size = w.heap.size + 1 + 1 + 1 + 1 + 1 + 1 + 1 := by rw [← hW0]; simp only [World.size_alloc]
  have HK := Lib.hid K
  clear K hW0
  have n1 : (45 : TypeId) ≠ 103 := by decide
  have n2 : (30 : TypeId) ≠ 103 := by decide
  have n3 : (53 : TypeId) ≠ 103 := by decide
  have n4 : (48 : TypeId) ≠ 103 := by decide
  refine wpIn_rangeT 103 rfl (by omega) (gf := 80) (lb := #[.pointer (some ⟨w.heap.size + 1 + 1 + 1 + 1 + 1 + 1, 0, none⟩)]) rfl trivial (enters_of Tryd.func80 (by kernel_rfl) rfl)
    (creadings_seq 2 (by decide) _ w W0 A c bs nb HB.out HN.out HL.out HT.out (HK.out.top 7) (HK.out.blk 0)) (fun _ _ _ h k => h.trans k) (fun W l o o' hl ho hc => KpR.put o' (by omega) ho hc) (Below.refl _ _) (fun _ => rfl)
    (fun pre W => Below w.heap.size w W ∧ Blk W (w.heap.size + 1) 45 #[.slice none 0 0] ∧ Blk W (w.heap.size + 1 + 1) 48 #[.int .i64 0, .int .i64 0, .int .i64 0, .bool false, .int .u64 0, .int .u8 0, .int .u8 0] ∧ Blk W (w.heap.size + 1 + 1 + 1) 30 #[.int .u16 0] ∧ (∃ v, Blk W (w.heap.size + 1 + 1 + 1 + 1) 45 #[v] ∧ OwnR W W0.heap.size 53 smp 2 v (pre.map smpR)) ∧ Blk W (w.heap.size + 1 + 1 + 1 + 1 + 1) 48 #[.int .i64 (lastE pre).n, .int .i64 (lastE pre).last, .int .i64 (lastE pre).delta, .bool (lastE pre).val.has, .int .u64 (lastE pre).val.prev, .int .u8 (lastE pre).val.lead, .int .u8 (lastE pre).val.width] ∧ (∀ x ∈ pre, x.c = 0) ∧ W0.heap.size ≤ W.heap.size)
    (fun cd pre W => cd = .ret ∧ (∃ x ∈ pre, x.c ≠ 0 ∧ Blk W (w.heap.size + 1 + 1 + 1) 30 #[.int .u16 x.c]) ∧ Below w.heap.size w W ∧ Blk W (w.heap.size + 1) 45 #[.slice none 0 0] ∧ Blk W (w.heap.size + 1 + 1) 48 #[.int .i64 0, .int .i64 0, .int .i64 0, .bool false, .int .u64 0, .int .u8 0, .int .u8 0])
    (fun x a' W => ∃ g, W0.heap.size ≤ g ∧ a' = { tmps := #[.agg #[.slice A bs.length c, .int .i64 nb], .pointer (some ⟨w.heap.size, 0, none⟩), .pointer (some ⟨w.heap.size + 1, 0, none⟩), .pointer (some ⟨w.heap.size + 1 + 1, 0, none⟩), .pointer (some ⟨w.heap.size + 1 + 1 + 1, 0, none⟩), .pointer (some ⟨w.heap.size + 1 + 1 + 1 + 1, 0, none⟩), .pointer (some ⟨w.heap.size + 1 + 1 + 1 + 1 + 1, 0, none⟩), .pointer (some ⟨g, 0, none⟩), .agg #[.slice A bs.length c, .int .i64 nb], .func (.func 80) #[] #[.pointer (some ⟨w.heap.size + 1 + 1 + 1 + 1 + 1 + 1, 0, none⟩)], .agg x.cells, undef, undef, undef, undef, undef, undef, undef, undef, undef, undef, undef, undef, undef, undef, undef], defers := [] } ∧ Blk W g 103 x.cells)
    (fun s B C h k => ⟨k.below h.1 (by omega) h.1.size, k.blk h.2.1 (.inl n1), k.blk h.2.2.1 (.inl n4), k.blk h.2.2.2.1 (.inl n2), h.2.2.2.2.1.elim fun v hv => ⟨v, k.blk hv.1 (.inl n1), k.row hv.2 n3⟩, k.blk h.2.2.2.2.2.1 (.inl n4), h.2.2.2.2.2.2.1, Nat.le_trans h.2.2.2.2.2.2.2 k.size⟩)
    (fun cd s B C h k => ⟨h.1, h.2.1.elim fun x hx => ⟨x, hx.1, hx.2.1, k.blk hx.2.2 (.inl n2)⟩, k.below h.2.2.1 (by omega) h.2.2.1.size, k.blk h.2.2.2.1 (.inl n1), k.blk h.2.2.2.2 (.inl n4)⟩)
    ⟨HK.out.top 7, HK.out.blk 5, HK.out.blk 4, HK.out.blk 3, ⟨_, HK.out.blk 2, OwnR.nil _ _ _ _ _⟩, HK.out.blk 1, (fun x h => by cases h), Nat.le_refl _⟩
    (fun x a' W l o o' hl hc h => h.elim fun g hg => ⟨g, hg.1, hg.2.1, hg.2.2.kept (grownBy_putObj' W l o') (fun e => by
      injection e with e
      subst e
      have := hl.symm.trans hg.2.2
      injection this with this
      subst this
      cases hc)⟩)
    ?assign ?body ?done ?stop
  case assign =>
    rintro l pre x W KK ⟨tB, b1, b2, b3, ⟨v, b4, hrow⟩, b6, hgood, hz⟩ hzz hK
    obtain ⟨rt, rv, rn, ⟨en, el, ed, ⟨eh, ep, eL, eX⟩⟩, rc⟩ := x
    have b5 := below_alloc W (.cells (RC.cells ⟨rt, rv, rn, ⟨en, el, ed, ⟨eh, ep, eL, eX⟩⟩, rc⟩) 103)
    have bn := Blk.new W 103 (RC.cells ⟨rt, rv, rn, ⟨en, el, ed, ⟨eh, ep, eL, eX⟩⟩, rc⟩)
    simp only [RC.cells] at hK b5 bn ⊢
    gi_wp2
    refine hK _ _ ⟨b5.size, fun k o _ ho _ => (b5.block k (Array.getElem?_eq_some_iff.1 ho).1).trans ho⟩ (KpR.of_below b5 tB.size) ⟨tB.trans (b5.mono tB.size), b1.below b5 b1.lt, b2.below b5 b2.lt, b3.below b5 b3.lt, ⟨v, b4.below b5 b4.lt, hrow.below b5⟩, b6.below b5 b6.lt, hgood, Nat.le_trans hz b5.size⟩ ⟨W.heap.size, hz, rfl, bn⟩
  case body =>
    rintro ll pre x a' W ⟨tB, b1, b2, b3, ⟨v, b4, hrow⟩, b6, hgood, hz⟩ ⟨g, hg, rfl, bg⟩ hlt
    obtain ⟨rt, rv, rn, ⟨en, el, ed, ⟨eh, ep, eL, eX⟩⟩, rc⟩ := x
    generalize lastE pre = E0 at b6
    obtain ⟨ln, ll', ld, ⟨lh, lp, lL, lX⟩⟩ := E0
    simp only [RC.cells] at bg ⊢
    dsimp only at b6
    have K := ((((((Qs.nil W).cons (k := qK w.heap.size W) (KpK.refl tB.size)).cons (k := qW w w.heap.size (Nat.le_refl _)) ⟨tB, tB.size⟩).cons (k := qB _ _ _) b1).cons (k := qB _ _ _) b2).cons (k := qB _ _ _) b3).cons (k := qB _ _ _) b4 |>.cons (k := qB _ _ _) b6 |>.cons (k := qB _ _ _) bg
    have HK := Lib.hid K
    have C := K.says
    simp only [sayAll, cellsSay, qB, qW, qO, qR, qZ, qK, Nat.reduceAdd, and_true, true_and] at C
    have Ha1 := Lib.hid (show apK w.heap.size W (w.heap.size + 1) from ⟨by omega, .inr ⟨_, _, by decide, by decide, b1⟩⟩)
    have Ha2 := Lib.hid (show apK w.heap.size W (w.heap.size + 1 + 1) from ⟨by omega, .inr ⟨_, _, by decide, by decide, b2⟩⟩)
    have Ha3 := Lib.hid (show apK w.heap.size W (w.heap.size + 1 + 1 + 1) from ⟨by omega, .inr ⟨_, _, by decide, by decide, b3⟩⟩)
    have Ha4 := Lib.hid (show apK w.heap.size W (w.heap.size + 1 + 1 + 1 + 1) from ⟨by omega, .inr ⟨_, _, by decide, by decide, b4⟩⟩)
    have Ha5 := Lib.hid (show apK w.heap.size W (w.heap.size + 1 + 1 + 1 + 1 + 1) from ⟨by omega, .inr ⟨_, _, by decide, by decide, b6⟩⟩)
    have Hao : Hid (∀ k, v.ownBlock = some k → g ≠ k ∧ W0.heap.size ≤ k ∧ apK w.heap.size W k) := Lib.hid fun k e => by
      obtain ⟨h1, cs, h2⟩ := hrow.home e
      exact ⟨fun e2 => by subst e2; exact h2.only n3 bg, h1, by omega, .inr ⟨_, _, by decide, by decide, h2⟩⟩
    have Hrow := Lib.hid hrow
    have Hgood := Lib.hid hgood
    have Hlen : Hid ((pre.map smpR).length < 800001) := Lib.hid (by rw [List.length_map]; exact hlt)
    obtain ⟨nds, hnds⟩ : ∃ nds, nds = pre.map smpR := ⟨_, rfl⟩
    rw [← hnds] at Hrow Hlen
    have Hnds := Lib.hid hnds
    clear K hrow hgood hnds b1 b2 b3 b4 b6 bg tB
    by_cases hc : rc = 0
    · subst hc
      gi_upto_region 8 with (gi_at_builtin; refine appR1In Tryd.eltS _ rfl (.tmp 17) (.tmp 20) rfl W0.heap.size v nds rfl (Hrow.out.alloc _) W.heap.size 1 (rt, rv) 53 _ rfl (Blk.new W _ _) rfl (by have := Hlen.out; unfold maxLen; omega) (by have := Hlen.out; omega) (by simp; omega) ?_; intro g2 c2 w2 hown2 hgr2 hb2; have HK2 := Lib.hid (((HK.out.alloc _).grow hgr2 (fun k e => by obtain ⟨e1, e2, e3⟩ := Hao.out k e; simp only [apAll, qB, qW, qK, e3, and_true]; omega)).row_ hown2); have C2 := HK2.out.says; simp only [sayAll, cellsSay, qB, qW, qO, qR, qZ, qK, Nat.reduceAdd, and_true, true_and] at C2; clear hgr2)
      generalize hW4 : World.setCell _ _ _ = W4
      have K4 := HK2.out.putTo 3 (w.heap.size + 1 + 1 + 1 + 1) [(0, .slice (some ⟨g2, 0, none⟩) (nds.length + 1) c2)] #[.slice (some ⟨g2, 0, none⟩) (nds.length + 1) c2] hW4 (by simp only [List.set, apBut, apAll, qB, qW, qO, qR, qZ, qK, Ha4.out, and_true]; omega)
      simp only [List.set] at K4
      clear C C2 hW4
      have HK4 := Lib.hid K4
      have C := K4.says
      simp only [sayAll, cellsSay, qB, qW, qO, qR, qZ, qK, Nat.reduceAdd, and_true, true_and] at C
      clear K4
      gi_wp2
      generalize hW5 : World.setCell _ _ _ = W5
      have K5 := HK4.out.putTo 2 (w.heap.size + 1 + 1 + 1 + 1 + 1) [(0, .int .i64 en), (1, .int .i64 el), (2, .int .i64 ed), (3, .bool eh), (4, .int .u64 ep), (5, .int .u8 eL), (6, .int .u8 eX)] #[.int .i64 en, .int .i64 el, .int .i64 ed, .bool eh, .int .u64 ep, .int .u8 eL, .int .u8 eX] hW5 (by simp only [List.set, apBut, apAll, qB, qW, qO, qR, qZ, qK, Ha5.out, and_true]; omega)
      simp only [List.set] at K5
      have kk := K5.get 8 rfl
      refine ⟨KpK.keeps kk _, KpK.kp kk, K5.top 7, K5.blk 6, K5.blk 5, K5.blk 4, ⟨_, K5.blk 3, ?_⟩, ?_, ?_, Nat.le_trans hz (KpK.sz kk)⟩
      · rw [List.map_append, ← Hnds.out]
        exact K5.row 0
      · rw [lastE_snoc]
        exact K5.blk 2
      · intro y hy
        rcases List.mem_append.1 hy with h | h
        · exact Hgood.out y h
        · rw [List.mem_singleton.1 h]
    · have kc : ((rc : Int) == 0) = false := beq_eq_false_iff_ne.2 (by omega)
      have kd : ((rc : Int) != 0) = true := by simpa using hc
      gi_wp2
      gi_region
      all_goals
        gi_wp2
        generalize hW5 : World.setCell _ _ _ = W5
        have K5 := (((HK.out.put 5 (w.heap.size + 1) [(0, .slice none 0 0)] #[.slice none 0 0] (by simp only [List.set, apBut, apAll, qB, qW, qO, qR, qZ, qK, Ha1.out, and_true]; omega)).put 4 (w.heap.size + 1 + 1) [(0, .int .i64 0), (1, .int .i64 0), (2, .int .i64 0), (3, .bool false), (4, .int .u64 0), (5, .int .u8 0), (6, .int .u8 0)] #[.int .i64 0, .int .i64 0, .int .i64 0, .bool false, .int .u64 0, .int .u8 0, .int .u8 0] (by simp only [List.set, apBut, apAll, qB, qW, qO, qR, qZ, qK, Ha2.out, and_true]; omega)).putTo 3 (w.heap.size + 1 + 1 + 1) [(0, .int .u16 rc)] #[.int .u16 rc] hW5 (by simp only [List.set, apBut, apAll, qB, qW, qO, qR, qZ, qK, Ha3.out, and_true]; omega)).drew
        simp only [List.set] at K5
        exact ⟨KpK.keeps (K5.get 7 rfl) _, rfl, ⟨_, List.mem_append_right _ (List.mem_singleton.2 rfl), hc, K5.blk 3⟩, K5.top 6, K5.blk 5, K5.blk 4⟩
  case done =>
    rintro D ys W hD hys ⟨tB, b1, b2, b3, ⟨v, b4, hrow⟩, b6, hgood, hz⟩ hK
    subst hys
    have hRe := HR.out.trans (all_done hgood)
    subst hRe
    obtain ⟨V, m, rfl, -⟩ := hrow.row Tryd.eltS
    obtain ⟨nds, hnds⟩ : ∃ nds, nds = (rdsC bs nb).map smpR := ⟨_, rfl⟩
    obtain ⟨E0, hE0⟩ : ∃ E0, E0 = lastE (rdsC bs nb) := ⟨_, rfl⟩
    rw [← hnds] at b4 hrow
    rw [← hE0] at b6
    have Hnds := Lib.hid hnds
    have HE := Lib.hid hE0
    obtain ⟨en, el, ed, ⟨eh, ep, eL, eX⟩⟩ := E0
    dsimp only at b6
    have K := ((((((Qs.nil W).cons (k := qK w.heap.size W) (KpK.refl tB.size)).cons (k := qW w w.heap.size (Nat.le_refl _)) ⟨tB, tB.size⟩).cons (k := qB _ _ _) b1).cons (k := qB _ _ _) b2).cons (k := qB _ _ _) b3).cons (k := qB _ _ _) b4 |>.cons (k := qB _ _ _) b6 |>.row_ hrow
    have HK := Lib.hid K
    have C := K.says
    simp only [sayAll, cellsSay, qB, qW, qO, qR, qZ, qK, Nat.reduceAdd, and_true, true_and] at C
    have Ha1 := Lib.hid (show apK w.heap.size W (w.heap.size + 1) from ⟨by omega, .inr ⟨_, _, by decide, by decide, b1⟩⟩)
    have Ha2 := Lib.hid (show apK w.heap.size W (w.heap.size + 1 + 1) from ⟨by omega, .inr ⟨_, _, by decide, by decide, b2⟩⟩)
    have Ha3 := Lib.hid (show apK w.heap.size W (w.heap.size + 1 + 1 + 1) from ⟨by omega, .inr ⟨_, _, by decide, by decide, b3⟩⟩)
    have HD := Lib.hid hK
    clear K hgood hnds hE0 b1 b2 b3 b4 b6 tB hrow HR hK
    gi_wp2
    gi_region
    all_goals
      gi_wp2
      generalize hW5 : World.setCell _ _ _ = W5
      have K5 := (((HK.out.put 5 (w.heap.size + 1) [(0, .slice V nds.length m)] #[.slice V nds.length m] (by simp only [List.set, apBut, apAll, qB, qW, qO, qR, qZ, qK, Ha1.out, and_true]; omega)).put 4 (w.heap.size + 1 + 1) [(0, .int .i64 en), (1, .int .i64 el), (2, .int .i64 ed), (3, .bool eh), (4, .int .u64 ep), (5, .int .u8 eL), (6, .int .u8 eX)] #[.int .i64 en, .int .i64 el, .int .i64 ed, .bool eh, .int .u64 ep, .int .u8 eL, .int .u8 eX] (by simp only [List.set, apBut, apAll, qB, qW, qO, qR, qZ, qK, Ha2.out, and_true]; omega)).putTo 3 (w.heap.size + 1 + 1 + 1) [(0, .int .u16 0)] #[.int .u16 0] hW5 (by simp only [List.set, apBut, apAll, qB, qW, qO, qR, qZ, qK, Ha3.out, and_true]; omega)).drew
      simp only [List.set] at K5
      have hD5 := KpK.oth (K5.get 7 rfl) D _ HD.out rfl
      have K6 := (((((Qs.nil W5.drew).cons (K5.get 6 rfl)).cons (K5.get 5 rfl)).cons (K5.get 4 rfl)).cons (K5.get 3 rfl)).grow (grownBy_putObj' W5.drew D (.deferred none)) (fun k e => by injection e with e; subst e; simp only [apAll, qB, qW, and_true]; omega)
      have C6 := K6.says
      simp only [sayAll, cellsSay, qB, qW, qO, qR, qZ, qK, Nat.reduceAdd, and_true, true_and] at C6
      refine ⟨by simp, .inl ⟨_, _, rfl, run_takeDeferred hD5, ?_⟩⟩
      refine ⟨.tuple #[.slice V nds.length m, .agg #[.int .i64 en, .int .i64 el, .int .i64 ed, .bool eh, .int .u64 ep, .int .u8 eL, .int .u8 eX], .int .u16 0], by simp [results, Tryd.results30, go_sem, C6], ?_⟩
      refine ⟨_, by rw [← HE.out], ?_, K6.top 3⟩
      rw [← Hnds.out]
      exact OwnR.mono (show OwnR _ W0.heap.size 53 smp 2 _ nds from ownsRow_putObj (K5.row 0) _ hD5 rfl) (by omega)
  case stop =>
    rintro D cd pre W hD hp ⟨rfl, ⟨x, hx, hne, b3⟩, tB, b1, b2⟩ hK
    have hRe := HR.out.trans (all_stop (hp.subset hx) hne)
    subst hRe
    gi_wp2
    have K6 := (((((Qs.nil W).cons (k := qW w w.heap.size (Nat.le_refl _)) ⟨tB, tB.size⟩).cons (k := qB _ _ _) b1).cons (k := qB _ _ _) b2).cons (k := qB _ _ _) b3).grow (grownBy_putObj' W D (.deferred none)) (fun k e => by injection e with e; subst e; simp only [apAll, qB, qW, and_true]; omega)
    have C6 := K6.says
    simp only [sayAll, cellsSay, qB, qW, qO, qR, qZ, qK, Nat.reduceAdd, and_true, true_and] at C6
    refine ⟨by simp, .inl ⟨_, _, rfl, run_takeDeferred hK, ?_⟩⟩
    exact ⟨.tuple #[.slice none 0 0, .agg #[.int .i64 0, .int .i64 0, .int .i64 0, .bool false, .int .u64 0, .int .u8 0, .int .u8 0], .int .u16 x.c], by simp [results, Tryd.results30, go_sem, C6], _, rfl, OwnR.nil _ _ _ _ _, K6.top 3⟩

end Go.Proofs.YtgnppnjhecfjeaaDoor

/- Layer 6: the document's read. -/
namespace Go.Proofs.YtgnppnjhecfjeaaDoor
open Go.RowKit Go.Shelf
set_option maxRecDepth 100000

/-- a row of the call's own, apart from any other block -/
def qV {α : Type} (base : Nat) (e : TypeId) (enc : α → List Value) (sz : Nat) (v : Value) (l : List α) : Kq := ⟨fun w => OwnR w base e enc sz v l, fun g => v.ownBlock ≠ some g, fun _ => True,
  fun _ _ r h hg ha => World.ownsRow.kept h hg (by
    cases r with
    | none => cases hv : v.ownBlock with
      | none => exact .inl rfl
      | some k => exact .inr (by simp)
    | some g => exact .inr (ha g rfl)), fun _ _ => trivial⟩
theorem Qs.rowV {w : World} {ks : List Kq} (h : Qs w ks) (i : Nat) {α : Type} {base : Nat} {t : TypeId} {enc : α → List Value} {sz : Nat} {v : Value} {l : List α} (e : ks[i]? = some (qV base t enc sz v l) := by rfl) : OwnR w base t enc sz v l := h.get i e

theorem appR1G {P : Program} {α : Type} {t e : TypeId} {enc : α → List Value} {sz bytes : Nat} (E : Elt P t e enc sz bytes) (w : World) {ops : Array Oper} {rest : List Oper} {o : Oper} {a : Act} {Q : Exit → Act → World → Prop} (hgd : o.guard = none) (s x : Operand)
    (ho : o.op = .call { callee := .builtin .append, args := #[s, x], argTypes := #[t, t] })
    (base : Nat) (v : Value) (n : Nat) (L : List α) (hs : a.eval s = v) (hown : OwnR w base e enc sz v L) (hn : L.length = n) (g c : Nat) (y : α) (u : TypeId) (cs : Array Value)
    (hx : a.eval x = .slice (some ⟨g, 0, none⟩) 1 c) (hb : Blk w g u cs) (hcs : cs = (enc y).toArray) (hlen : n + 1 ≤ maxLen) (hbytes : (n + 1) * bytes ≤ 140737488355328) (hbase : base ≤ w.heap.size)
    (h : ∀ g' c' w', OwnR w' base e enc sz (.slice (some ⟨g', 0, none⟩) (n + 1) c') (L ++ [y]) → w.grownBy w' v.ownBlock → base ≤ g' → wpList P ops Q rest (a.put o.dst (.slice (some ⟨g', 0, none⟩) (n + 1) c')) w') : wpList P ops Q (o :: rest) a w := by
  subst hcs
  subst hn
  obtain ⟨z, hinfo, hzs⟩ := E.info
  obtain ⟨i, hi, hz, hsz, hby⟩ := info_parts hinfo
  refine wpList_append_own (P := P) w hgd s x t ho base e i z sz bytes E.under hi hz hsz hby hzs E.pos v L.length (L.flatMap enc) hs hown ⟨g, 0, none⟩ 1 c (enc y) hx (by rw [E.len, Nat.one_mul]) ?_ (E.one y) hlen hbytes hbase fun v' w' h2 h3 _ => ?_
  · intro j u hj
    rw [addS, hb.cell, Nat.zero_add]
    simpa using hj
  · have h4 : OwnR w' base e enc sz v' (L ++ [y]) := by unfold OwnR; rw [List.length_append, List.flatMap_append]; simpa using h2
    rcases h4.2 with ⟨_, h0⟩ | ⟨g', cap, cur, hv, hg, _⟩
    · simp at h0
    · rw [List.length_append] at hv
      subst hv
      exact h g' cap w' h4 h3 hg

theorem getC_sound {l : List UInt8} {m a : Nat} {e : EC} (hs : soundB l (m : Int) = true) (he : OkC e) : getC l (m : Int) e (a : Int) = gotC l m e a := by
  unfold getC
  rw [if_neg (by rw [hs]; decide), if_neg (by rw [he.snd]; decide), Int.toNat_natCast]

/-- nine cells and slots that the document's read answers -/
def RdOut (R : List RC × Nat) (base : Nat) (e : Ending) (w' : World) : Prop := ∃ v u, e = .returned (.tuple #[v, u, .agg #[.int .i64 (lastE R.1).n, .int .i64 (lastE R.1).last, .int .i64 (lastE R.1).delta, .bool (lastE R.1).val.has, .int .u64 (lastE R.1).val.prev, .int .u8 (lastE R.1).val.lead, .int .u8 (lastE R.1).val.width], .int .i64 R.2]) ∧
  OwnR w' base 53 smp 2 v (R.1.map smpR) ∧ OwnR w' base 3 encI 1 u (R.1.map (·.nd))

set_option maxHeartbeats 4000000 in
theorem rread_any (A : Option Addr) (c : Nat) (bs : List UInt8) (nb : Int) (w : World) (hbs : Bs w A bs) (hnb : in64 nb) (hlen : bs.length ≤ 100000) :
    Calls Tryd.prog 60 #[.agg #[.slice A bs.length c, .int .i64 nb]] w fun e w' => RdOut (allC bs nb) w.heap.size e w' ∧ Below w.heap.size w w' := by
  have hlm : bs.length ≤ 1099511627776 := by omega
  obtain ⟨R, hR⟩ : ∃ R, R = allC bs nb := ⟨_, rfl⟩
  rw [← hR]
  have HR := Lib.hid hR
  have HB := Lib.hid hbs
  clear hbs hR
  unfold in64 at hnb
  have K := ((Qs.zero w).box #[.slice A bs.length c, .int .i64 nb] 24).box #[.int .i64 0, .int .i64 0, .int .i64 0, .bool false, .int .u64 0, .int .u8 0, .int .u8 0] 48
  simp only [World.size_alloc] at K
  go_enter Tryd.func60, Tryd.ntmps60
  go_wp2_with fail
  generalize hW0 : World.alloc _ _ = W0
  rw [hW0] at K
  have HK := Lib.hid K
  clear K hW0
  refine (refSound_any A c bs nb W0 (HB.out.below (HK.out.top 2)) hnb hlm).mono ?_
  rintro e w1 ⟨rfl, b1⟩
  replace HK := Lib.hid (HK.out.go b1)
  clear b1
  have C := HK.out.says
  simp only [sayAll, cellsSay, qB, qW, qV, qZ, Nat.reduceAdd, and_true, true_and] at C
  cases hs : soundB bs nb
  · have hR2 : R = ([], 11) := by rw [HR.out]; unfold allC; rw [if_pos hs]
    subst hR2
    clear HR hs
    go_wp2_with fail
    generalize hW : World.setCell _ _ _ = W5
    have K5 := HK.out.putTo 0 (w.heap.size + 1) [(0, .int .i64 0), (1, .int .i64 0), (2, .int .i64 0), (3, .bool false), (4, .int .u64 0), (5, .int .u8 0), (6, .int .u8 0)] #[.int .i64 0, .int .i64 0, .int .i64 0, .bool false, .int .u64 0, .int .u8 0, .int .u8 0] hW (by simp only [apBut, apAll, qB, qW, and_true]; omega)
    simp only [List.set] at K5
    clear hW C
    have C := K5.says
    simp only [sayAll, cellsSay, qB, qW, qV, qZ, Nat.reduceAdd, and_true, true_and] at C
    exact bodyPost_ret (v := .tuple #[.slice none 0 0, .slice none 0 0, .agg #[.int .i64 0, .int .i64 0, .int .i64 0, .bool false, .int .u64 0, .int .u8 0, .int .u8 0], .int .i64 11]) (by simp [results, Tryd.results60, go_sem, C]) rfl ⟨⟨_, _, rfl, OwnR.nil _ _ _ _ _, OwnR.nil _ _ _ _ _⟩, K5.top 2⟩
  · obtain ⟨m, rfl, hm8, -⟩ := sound_nat hs
    have Hs := Lib.hid hs
    have Hrd : Hid (rdsC bs (m : Int) = rdC bs m m ec0 0) := Lib.hid (by unfold rdsC; rw [if_neg (by rw [hs]; decide), Int.toNat_natCast])
    clear hs
    go_wp2_with fail
    generalize hW2 : World.alloc _ _ = W2
    have K2 := HK.out.box #[.int .i64 0, .int .i64 0, .int .i64 0, .bool false, .int .u64 0, .int .u8 0, .int .u8 0] 48
    rw [hW2] at K2
    have z2 : w1.heap.size < W2.heap.size := (K2.blk 0).lt
    have z1 : w.heap.size + 1 < w1.heap.size := (HK.out.blk 0).lt
    obtain ⟨g9, hg9⟩ : ∃ g9, g9 = w1.heap.size := ⟨_, rfl⟩
    rw [← hg9] at z1 z2 K2 ⊢
    have HK2 := Lib.hid K2
    clear hW2 hg9 C K2 HK
    go_loopw [7, 8, 10] (fun sl su sa wr => ∃ (pre : List RC) (f a k : Nat) (V U : Option Addr) (cv cu : Nat) (en el ed : Int) (eh : Bool) (ep eL eX : Nat), sl = .slice V k cv ∧ su = .slice U k cu ∧ sa = .int .i64 a ∧ a ≤ m ∧ k ≤ a ∧ m ≤ a + f ∧ Hid (pre.length = k) ∧ Hid (en = (k : Int)) ∧ Hid (OkC ⟨en, el, ed, ⟨eh, ep, eL, eX⟩⟩) ∧ Hid (lastE pre = ⟨en, el, ed, ⟨eh, ep, eL, eX⟩⟩) ∧ Hid (∀ x ∈ pre, x.c = 0) ∧ Hid (rdC bs m m ec0 0 = pre ++ rdC bs m f ⟨en, el, ed, ⟨eh, ep, eL, eX⟩⟩ a) ∧
        Qs wr [qV W2.heap.size 53 smp 2 (.slice V k cv) (pre.map smpR), qV W2.heap.size 3 encI 1 (.slice U k cu) (pre.map (·.nd)), qB g9 48 #[.int .i64 en, .int .i64 el, .int .i64 ed, .bool eh, .int .u64 ep, .int .u8 eL, .int .u8 eX], qB (w.heap.size + 1) 48 #[.int .i64 0, .int .i64 0, .int .i64 0, .bool false, .int .u64 0, .int .u8 0, .int .u8 0], qB w.heap.size 24 #[.slice A bs.length c, .int .i64 m], qW w w.heap.size (Nat.le_refl _), qZ W2.heap.size])
      (fun _ _ sa _ => m - (intOf sa).toNat)
    case atStart => exact ⟨[], m, 0, 0, none, none, 0, 0, 0, 0, 0, false, 0, 0, 0, rfl, rfl, rfl, Nat.zero_le _, Nat.le_refl _, by omega, Lib.hid rfl, Lib.hid rfl, Lib.hid ok0, Lib.hid rfl, Lib.hid (fun x h => by cases h), Lib.hid rfl, ((((((((Qs.nil W2).siz_).cons (HK2.out.get 3 rfl)).cons (HK2.out.get 2 rfl)).cons (HK2.out.get 1 rfl)).cons (HK2.out.get 0 rfl)).cons (k := qV _ _ _ _ _ _) (OwnR.nil _ _ _ _ _)).cons (k := qV _ _ _ _ _ _) (OwnR.nil _ _ _ _ _))⟩
    case round =>
      obtain ⟨pre, f, a, k, V, U, cv, cu, en, el, ed, eh, ep, eL, eX, rfl, rfl, rfl, ham, hka, hmf, Hk, Hen, Hok, Hla, Hgd, Hrr, hK⟩ := hrel
      have HK := Lib.hid hK
      have C := hK.says
      simp only [sayAll, cellsSay, qB, qW, qV, qZ, Nat.reduceAdd, and_true, true_and] at C
      have zw := hK.siz 6
      clear hK HK2
      rcases Nat.lt_or_ge a m with hlt | hge
      · obtain ⟨f, rfl⟩ : ∃ f', f = f' + 1 := ⟨f - 1, by omega⟩
        have ka : (a : Int) < (m : Int) := by omega
        have hgg := got_good (l := bs) Hok.out ⟨by show 0 ≤ en; have := Hen.out; omega, by show en < 1000000; have := Hen.out; omega⟩ ham
        have hgb := got_bd (l := bs) Hok.out ⟨by show 0 ≤ en; have := Hen.out; omega, by show en < 1000000; have := Hen.out; omega⟩ ham
        have hsm := OkC.small Hok.out
        have hgc := got_c bs m ⟨en, el, ed, ⟨eh, ep, eL, eX⟩⟩ a
        have hD := rcget_any A c bs m (a : Int) en el ed eh ep eL eX wr (HB.out.below (HK.out.top 5)) (by unfold in64; omega) hlen (by unfold in64; omega) Hok.out.n Hok.out.last Hok.out.delta Hok.out.prev hsm.1 hsm.2
        rw [getC_sound Hs.out Hok.out] at hD
        obtain ⟨⟨xt, xv, xn, ⟨fn, fl, fd, ⟨fh, fp, fL, fX⟩⟩, xc⟩, hx⟩ : ∃ x, x = gotC bs m ⟨en, el, ed, ⟨eh, ep, eL, eX⟩⟩ a := ⟨_, rfl⟩
        have hRx : rdC bs m m ec0 0 = pre ++ (⟨xt, xv, xn, ⟨fn, fl, fd, ⟨fh, fp, fL, fX⟩⟩, xc⟩ :: (if xc = 0 then rdC bs m f ⟨fn, fl, fd, ⟨fh, fp, fL, fX⟩⟩ xn.toNat else [])) := by
          have h2 := Hrr.out
          have hu : rdC bs m (f + 1) ⟨en, el, ed, ⟨eh, ep, eL, eX⟩⟩ a = if m ≤ a then [] else gotC bs m ⟨en, el, ed, ⟨eh, ep, eL, eX⟩⟩ a :: (if (gotC bs m ⟨en, el, ed, ⟨eh, ep, eL, eX⟩⟩ a).c = 0 then rdC bs m f (gotC bs m ⟨en, el, ed, ⟨eh, ep, eL, eX⟩⟩ a).e (gotC bs m ⟨en, el, ed, ⟨eh, ep, eL, eX⟩⟩ a).nd.toNat else []) := rfl
          rw [hu, if_neg (by omega), ← hx] at h2
          exact h2
        rw [← hx] at hD hgg hgb hgc
        dsimp only at hgg hgb hgc
        simp only [RC.tup] at hD
        have HD := Lib.hid hD
        have HRx := Lib.hid hRx
        have Hgg := Lib.hid hgg
        have Hgc := Lib.hid hgc
        clear hx hRx hD hgg hgb hgc Hok Hrr Hla
        go_upto_region 10 with (go_at_call 29; refine HD.out.mono ?_; rintro e w2 ⟨rfl, b2⟩)
        have K3 := ((HK.out.go b2).box #[.int .i64 xt, .int .u64 xv] 53).box #[.int .i64 fn, .int .i64 fl, .int .i64 fd, .bool fh, .int .u64 fp, .int .u8 fL, .int .u8 fX] 48
        have hqS : ∀ q, (Value.slice V k cv).ownBlock = some q → q < w2.heap.size := fun q e => (World.ownsRow.lt ((HK.out.go b2).rowV 0) q e).2
        have hqI : ∀ q, (Value.slice U k cu).ownBlock = some q → q < w2.heap.size := fun q e => (World.ownsRow.lt ((HK.out.go b2).rowV 1) q e).2
        have z3 := b2.size
        simp only [World.size_alloc] at K3
        generalize hW3 : World.alloc _ _ = W3
        rw [hW3] at K3
        have z4 : w2.heap.size + 1 < W3.heap.size := by rw [← hW3]; simp only [World.size_alloc]; omega
        have HqS := Lib.hid hqS
        have HqI := Lib.hid hqI
        clear C HD b2 hW3 hqS hqI
        by_cases hc : xc = 0
        · subst hc
          obtain ⟨g1, g2, kk, rfl, g4, g5⟩ := Hgg.out rfl
          have hRx := HRx.out
          rw [if_pos rfl, Int.toNat_natCast] at hRx
          have HRy := Lib.hid hRx
          have Hg1 := Lib.hid g1
          have Hg2 := Lib.hid g2
          have hkm : k + 1 ≤ 800001 := by omega
          clear hRx g1 g2 HRx Hgg Hgc
          have HS := Lib.hid (K3.rowV 2)
          have HI := Lib.hid (K3.rowV 3)
          have HaoS : Hid (∀ q, (Value.slice V k cv).ownBlock = some q → (Value.slice U k cu).ownBlock ≠ some q ∧ w2.heap.size + 1 ≠ q ∧ w2.heap.size ≠ q ∧ W2.heap.size ≤ q) := Lib.hid fun q e => by
            obtain ⟨h1, cs, h2⟩ := HS.out.home e
            have h3 := HqS.out q e
            exact ⟨fun e2 => by obtain ⟨_, cs', h4⟩ := HI.out.home e2; exact h2.only (by decide) h4, by omega, by omega, h1⟩
          have K3b := Lib.hid ((((((((Qs.nil W3).cons (K3.get 8 rfl)).cons (K3.get 7 rfl)).cons (K3.get 6 rfl)).cons (K3.get 5 rfl)).cons (K3.get 4 rfl)).cons (K3.get 1 rfl)).cons (K3.get 0 rfl) |>.cons (K3.get 3 rfl))
          have C := K3.says
          simp only [sayAll, cellsSay, qB, qW, qV, qZ, Nat.reduceAdd, and_true, true_and] at C
          clear K3
          go_upto_region 13 with (at_builtin; go_must (refine appR1G Tryd.eltS _ rfl (.tmp 37) (.tmp 39) rfl W2.heap.size (.slice V k cv) k (pre.map smpR) rfl (HS.out.alloc _) (by rw [List.length_map]; exact Hk.out) W3.heap.size 1 (xt, xv) 53 _ rfl (Blk.new W3 _ _) rfl (by unfold maxLen; omega) (by omega) (by simp; omega) ?_); intro g6 c6 w6 hown6 hgr6 hb6; have HK6 := Lib.hid (((K3b.out.alloc _).grow hgr6 (fun q e => by obtain ⟨e1, e2, e3, e4⟩ := HaoS.out q e; simp only [apAll, qV, qB, qW, qZ, and_true]; exact ⟨e1, e2, e3, by omega, by omega, by omega, by omega⟩)).cons (k := qV _ _ _ _ _ _) hown6); clear C hgr6; have C := HK6.out.says; simp only [sayAll, cellsSay, qB, qW, qV, qZ, Nat.reduceAdd, and_true, true_and] at C; have z6 := HK6.out.siz 8)
          go_loud (go_wp2_with (at_builtin; go_must (refine appR1G Tryd.eltI _ rfl (.tmp 41) (.tmp 43) rfl W2.heap.size (.slice U k cu) k (pre.map (·.nd)) rfl ((HK6.out.rowV 1).alloc _) (by rw [List.length_map]; exact Hk.out) w6.heap.size 1 ((a + kk : Nat) : Int) 3 _ rfl (Blk.new w6 _ _) rfl (by unfold maxLen; omega) (by omega) (by simp; omega) ?_); intro g7 c7 w7 hown7 hgr7 hb7; have HK7 := Lib.hid (((((((((((Qs.nil w6).cons (HK6.out.get 8 rfl)).cons (HK6.out.get 7 rfl)).cons (HK6.out.get 6 rfl)).cons (HK6.out.get 5 rfl)).cons (HK6.out.get 4 rfl)).cons (HK6.out.get 3 rfl)).cons (HK6.out.get 2 rfl)).cons (HK6.out.get 0 rfl)).alloc _).grow hgr7 (fun q e => by obtain ⟨h1, cs, h2⟩ := (HK6.out.rowV 1).home e; have h3 := HqI.out q e; simp only [apAll, qV, qB, qW, qZ, and_true]; exact ⟨fun e2 => by obtain ⟨_, cs', h4⟩ := (HK6.out.rowV 0).home e2; exact h2.only (by decide) h4, by omega, by omega, by omega, by omega, by omega, by omega⟩) |>.cons (k := qV _ _ _ _ _ _) hown7); clear C hgr7; have C := HK7.out.says; simp only [sayAll, cellsSay, qB, qW, qV, qZ, Nat.reduceAdd, and_true, true_and] at C))
          generalize hW8 : World.setCell _ _ _ = W8
          have K8 := HK7.out.putTo 4 g9 [(0, .int .i64 fn), (1, .int .i64 fl), (2, .int .i64 fd), (3, .bool fh), (4, .int .u64 fp), (5, .int .u8 fL), (6, .int .u8 fX)] #[.int .i64 fn, .int .i64 fl, .int .i64 fd, .bool fh, .int .u64 fp, .int .u8 fL, .int .u8 fX] hW8 (by simp only [apBut, apAll, qV, qB, qW, qZ, Value.ownBlock, ne_eq, Option.some.injEq, and_true]; omega)
          simp only [List.set] at K8
          have K9 := Lib.hid ((((((((Qs.nil W8).cons (K8.get 8 rfl)).cons (K8.get 7 rfl)).cons (K8.get 6 rfl)).cons (K8.get 5 rfl)).cons (K8.get 4 rfl)).cons (k := qV W2.heap.size 3 encI 1 (.slice (some ⟨g7, 0, none⟩) (k + 1) c7) ((pre ++ [RC.mk xt xv ((a + kk : Nat) : Int) ⟨fn, fl, fd, ⟨fh, fp, fL, fX⟩⟩ 0]).map (·.nd))) (by rw [List.map_append]; exact K8.rowV 0)).cons (k := qV W2.heap.size 53 smp 2 (.slice (some ⟨g6, 0, none⟩) (k + 1) c6) ((pre ++ [RC.mk xt xv ((a + kk : Nat) : Int) ⟨fn, fl, fd, ⟨fh, fp, fL, fX⟩⟩ 0]).map smpR)) (by rw [List.map_append]; exact K8.rowV 1))
          clear hW8 C K8
          go_roundw
          case measure => simp [intOf]; omega
          case rel =>
            refine ⟨pre ++ [RC.mk xt xv ((a + kk : Nat) : Int) ⟨fn, fl, fd, ⟨fh, fp, fL, fX⟩⟩ 0], f, a + kk, k + 1, some ⟨g6, 0, none⟩, some ⟨g7, 0, none⟩, c6, c7, fn, fl, fd, fh, fp, fL, fX, rfl, rfl, rfl, g5, by omega, by omega, Lib.hid (by rw [List.length_append, Hk.out]; rfl), Lib.hid (by have := Hg2.out; have := Hen.out; show fn = ((k + 1 : Nat) : Int); omega), Hg1, Lib.hid (lastE_snoc _ _), Lib.hid ?_, Lib.hid ?_, K9.out⟩
            · intro y hy
              rcases List.mem_append.1 hy with h | h
              · exact Hgd.out y h
              · rw [List.mem_singleton.1 h]
            · rw [HRy.out, List.append_assoc]
              rfl
        · have h61 := Hgc.out.resolve_left hc
          subst h61
          have hRe : R = ([], 61) := by
            rw [HR.out]
            exact all_stop (x := ⟨xt, xv, xn, ⟨fn, fl, fd, ⟨fh, fp, fL, fX⟩⟩, 61⟩) (by rw [Hrd.out, HRx.out]; simp) (by show (61 : Nat) ≠ 0; decide)
          subst hRe
          have C := K3.says
          simp only [sayAll, cellsSay, qB, qW, qV, qZ, Nat.reduceAdd, and_true, true_and] at C
          have HK3 := Lib.hid K3
          clear K3 HR Hgg Hgc HRx
          go_wp2_with fail
          generalize hW5 : World.setCell _ _ _ = W5
          have K5 := (((((Qs.nil W3).cons (HK3.out.get 7 rfl)).cons (HK3.out.get 6 rfl)).cons (HK3.out.get 5 rfl))).putTo 0 (w.heap.size + 1) [(0, .int .i64 0), (1, .int .i64 0), (2, .int .i64 0), (3, .bool false), (4, .int .u64 0), (5, .int .u8 0), (6, .int .u8 0)] #[.int .i64 0, .int .i64 0, .int .i64 0, .bool false, .int .u64 0, .int .u8 0, .int .u8 0] hW5 (by simp only [apBut, apAll, qB, qW, and_true]; omega)
          simp only [List.set] at K5
          clear hW5 C
          have C := K5.says
          simp only [sayAll, cellsSay, qB, qW, qV, qZ, Nat.reduceAdd, and_true, true_and] at C
          exact bodyPost_ret (v := .tuple #[.slice none 0 0, .slice none 0 0, .agg #[.int .i64 0, .int .i64 0, .int .i64 0, .bool false, .int .u64 0, .int .u8 0, .int .u8 0], .int .i64 61]) (by simp [results, Tryd.results60, go_sem, C]) rfl ⟨⟨_, _, rfl, OwnR.nil _ _ _ _ _, OwnR.nil _ _ _ _ _⟩, K5.top 2⟩
      · obtain rfl : a = m := by omega
        have hrd : rdsC bs (a : Int) = pre := by
          rw [Hrd.out, Hrr.out]
          cases f with
          | zero => simp [rdC]
          | succ f => simp [rdC]
        have hRe : R = (pre, 0) := by
          rw [HR.out, all_done (by rw [hrd]; exact Hgd.out), hrd]
        subst hRe
        have B0 := HK.out.blk 2
        have dq : wr.cell? ⟨g9, 0, none⟩ = some (.int .i64 en) ∧ wr.cell? ⟨g9, 1, none⟩ = some (.int .i64 el) ∧ wr.cell? ⟨g9, 2, none⟩ = some (.int .i64 ed) ∧ wr.cell? ⟨g9, 3, none⟩ = some (.bool eh) ∧ wr.cell? ⟨g9, 4, none⟩ = some (.int .u64 ep) ∧ wr.cell? ⟨g9, 5, none⟩ = some (.int .u8 eL) ∧ wr.cell? ⟨g9, 6, none⟩ = some (.int .u8 eX) := ⟨B0.cell 0, B0.cell 1, B0.cell 2, B0.cell 3, B0.cell 4, B0.cell 5, B0.cell 6⟩
        have nf1 := fun (W : World) (i j : Nat) (u : Value) => World.cell?_setCell_far W ⟨w.heap.size + 1, i, none⟩ ⟨g9, j, none⟩ u (by simp <;> omega)
        have ndr : ∀ (W : World) (a : Addr), W.drew.cell? a = W.cell? a := fun _ _ => rfl
        clear B0 hrd HR Hrr Hrd Hgd
        go_wp2_with fail
        go_region_held3 (fun w' => w'.cell? ⟨g9, 0, none⟩ = some (.int .i64 en) ∧ w'.cell? ⟨g9, 1, none⟩ = some (.int .i64 el) ∧ w'.cell? ⟨g9, 2, none⟩ = some (.int .i64 ed) ∧ w'.cell? ⟨g9, 3, none⟩ = some (.bool eh) ∧ w'.cell? ⟨g9, 4, none⟩ = some (.int .u64 ep) ∧ w'.cell? ⟨g9, 5, none⟩ = some (.int .u8 eL) ∧ w'.cell? ⟨g9, 6, none⟩ = some (.int .u8 eX)) (first | (simp only [ndr]; with_reducible exact dq) | (simp only [ndr, nf1]; with_reducible exact dq)) (fail)
        go_wp2_with fail
        generalize hW5 : World.setCell _ _ _ = W5
        have K5 := ((((((Qs.nil wr).cons (HK.out.get 5 rfl)).cons (HK.out.get 4 rfl)).cons (HK.out.get 3 rfl)).cons (HK.out.get 1 rfl)).cons (HK.out.get 0 rfl)).putTo 2 (w.heap.size + 1) [(0, .int .i64 en), (1, .int .i64 el), (2, .int .i64 ed), (3, .bool eh), (4, .int .u64 ep), (5, .int .u8 eL), (6, .int .u8 eX)] #[.int .i64 en, .int .i64 el, .int .i64 ed, .bool eh, .int .u64 ep, .int .u8 eL, .int .u8 eX] hW5 (by simp only [apBut, apAll, qB, qV, qW, and_true]; exact ⟨(HK.out.rowV 0).ne (by omega), (HK.out.rowV 1).ne (by omega), by omega, by omega⟩)
        simp only [List.set] at K5
        clear hW5 C dq nf1
        have C := K5.says
        simp only [sayAll, cellsSay, qB, qW, qV, qZ, Nat.reduceAdd, and_true, true_and] at C
        refine bodyPost_ret (v := .tuple #[.slice V k cv, .slice U k cu, .agg #[.int .i64 en, .int .i64 el, .int .i64 ed, .bool eh, .int .u64 ep, .int .u8 eL, .int .u8 eX], .int .i64 0]) (by simp [results, Tryd.results60, go_sem, C]) rfl ⟨⟨_, _, by rw [Hla.out]; rfl, ((K5.rowV 0).mono (by omega)).drew, ((K5.rowV 1).mono (by omega)).drew⟩, (K5.top 4).drew⟩

end Go.Proofs.YtgnppnjhecfjeaaDoor

/- Layer 6: the document's All and Ends, and the statements' ends. -/
namespace Go.Proofs.YtgnppnjhecfjeaaDoor
open Go.RowKit
set_option maxRecDepth 100000

theorem allC_code (l : List UInt8) (nb : Int) : (allC l nb).2 ≤ 61 := by
  unfold allC
  split
  · simp
  · split <;> simp
theorem rdC_len (l : List UInt8) (m : Nat) : ∀ (f : Nat) (e : EC) (a : Nat), OkC e → 0 ≤ e.n → e.n + ((m - a : Nat) : Int) < 1000000 → a ≤ m → 2 * (rdC l m f e a).length ≤ (m - a) + 2
  | 0, _, _, _, _, _, _ => by simp [rdC]
  | f + 1, e, a, he, hn, hb, ha => by
    unfold rdC
    split
    · simp
    · rename_i hlt
      by_cases hc : (gotC l m e a).c = 0
      · obtain ⟨h1, h2, k, h3, h4, h5⟩ := got_good (l := l) he ⟨hn, by omega⟩ ha hc
        rw [if_pos hc, h3, Int.toNat_natCast]
        have := rdC_len l m f (gotC l m e a).e (a + k) h1 (by rw [h2]; omega) (by rw [h2]; omega) h5
        simp only [List.length_cons]
        omega
      · rw [if_neg hc]
        simp
theorem allC_len {l : List UInt8} {nb : Int} (hl : l.length ≤ 100000) : (allC l nb).1.length ≤ 4 * l.length + 1 := by
  unfold allC
  split
  · simp
  · rename_i hs
    split
    · obtain ⟨m, rfl, hm8, -⟩ := sound_nat (by simpa using hs)
      unfold rdsC
      rw [if_neg hs, Int.toNat_natCast]
      have := rdC_len l m m ec0 0 ok0 (Int.le_refl _) (by show (0 : Int) + _ < _; omega) (Nat.zero_le _)
      show (rdC l m m ec0 0).length ≤ _
      omega
    · simp

set_option maxHeartbeats 2000000 in
theorem rall_any (A : Option Addr) (c : Nat) (bs : List UInt8) (nb : Int) (w : World) (hbs : Bs w A bs) (hnb : in64 nb) (hlen : bs.length ≤ 100000) :
    Calls Tryd.prog 31 #[.agg #[.slice A bs.length c, .int .i64 nb]] w fun e w' => ∃ v, e = .returned (.tuple #[v, .agg #[.int .i64 (lastE (allC bs nb).1).n, .int .i64 (lastE (allC bs nb).1).last, .int .i64 (lastE (allC bs nb).1).delta, .bool (lastE (allC bs nb).1).val.has, .int .u64 (lastE (allC bs nb).1).val.prev, .int .u8 (lastE (allC bs nb).1).val.lead, .int .u8 (lastE (allC bs nb).1).val.width], .int .i64 (allC bs nb).2]) ∧ OwnR w' w.heap.size 53 smp 2 v ((allC bs nb).1.map smpR) ∧ Below w.heap.size w w' := by
  have hmx : Tryd.prog.follows .mixedOrders = true := by kernel_rfl
  have hD := fun (W : World) (hW : Bs W A bs) => rread_any A c bs nb W hW hnb hlen
  unfold RdOut at hD
  generalize allC bs nb = R at hD ⊢
  obtain ⟨L, cd⟩ := R
  dsimp only at hD ⊢
  generalize lastE L = E0 at hD ⊢
  obtain ⟨en, el, ed, ⟨eh, ep, eL, eX⟩⟩ := E0
  dsimp only at hD ⊢
  have HD := Lib.hid hD
  have HB := Lib.hid hbs
  clear hbs hD
  have K := ((Qs.zero w).box #[.slice A bs.length c, .int .i64 nb] 24).box #[.int .i64 0, .int .i64 0, .int .i64 0, .bool false, .int .u64 0, .int .u8 0, .int .u8 0] 48
  simp only [World.size_alloc] at K
  go_enter Tryd.func31, Tryd.ntmps31
  go_wp2_with fail
  generalize hW0 : World.alloc _ _ = W0
  rw [hW0] at K
  have HK := Lib.hid K
  clear K hW0
  refine (HD.out _ (HB.out.below (HK.out.top 2))).mono ?_
  rintro e w1 ⟨⟨v, u, rfl, hv, hu⟩, b1⟩
  have zW := (HK.out.blk 0).lt
  have K1 := ((HK.out.go b1).cons (k := qV _ _ _ _ _ _) hv).box #[.int .i64 en, .int .i64 el, .int .i64 ed, .bool eh, .int .u64 ep, .int .u8 eL, .int .u8 eX] 48
  obtain ⟨g7, hg7⟩ : ∃ g7, g7 = w1.heap.size := ⟨_, rfl⟩
  have z1 := b1.size
  rw [← hg7] at K1 z1
  have HK1 := Lib.hid K1
  have C := K1.says
  simp only [sayAll, cellsSay, qB, qW, qV, qZ, Nat.reduceAdd, and_true, true_and] at C
  have B0 := K1.blk 0
  obtain ⟨A2, c2, rfl, -⟩ := hv.row Tryd.eltS
  go_wp2_with fail
  generalize hW1 : World.alloc _ _ = W1
  rw [hW1] at B0 HK1 C
  try simp only [← hg7]
  have dq : W1.cell? ⟨g7, 0, none⟩ = some (.int .i64 en) ∧ W1.cell? ⟨g7, 1, none⟩ = some (.int .i64 el) ∧ W1.cell? ⟨g7, 2, none⟩ = some (.int .i64 ed) ∧ W1.cell? ⟨g7, 3, none⟩ = some (.bool eh) ∧ W1.cell? ⟨g7, 4, none⟩ = some (.int .u64 ep) ∧ W1.cell? ⟨g7, 5, none⟩ = some (.int .u8 eL) ∧ W1.cell? ⟨g7, 6, none⟩ = some (.int .u8 eX) := ⟨B0.cell 0, B0.cell 1, B0.cell 2, B0.cell 3, B0.cell 4, B0.cell 5, B0.cell 6⟩
  have nf1 := fun (W : World) (i j : Nat) (u : Value) => World.cell?_setCell_far W ⟨w.heap.size + 1, i, none⟩ ⟨g7, j, none⟩ u (by simp <;> omega)
  have ndr : ∀ (W : World) (a : Addr), W.drew.cell? a = W.cell? a := fun _ _ => rfl
  clear B0 HK HD K1 hv hu b1 hW1 hg7
  go_region_held3 (fun w' => w'.cell? ⟨g7, 0, none⟩ = some (.int .i64 en) ∧ w'.cell? ⟨g7, 1, none⟩ = some (.int .i64 el) ∧ w'.cell? ⟨g7, 2, none⟩ = some (.int .i64 ed) ∧ w'.cell? ⟨g7, 3, none⟩ = some (.bool eh) ∧ w'.cell? ⟨g7, 4, none⟩ = some (.int .u64 ep) ∧ w'.cell? ⟨g7, 5, none⟩ = some (.int .u8 eL) ∧ w'.cell? ⟨g7, 6, none⟩ = some (.int .u8 eX)) (first | (simp only [ndr]; with_reducible exact dq) | (simp only [ndr, nf1]; with_reducible exact dq)) (fail)
  go_wp2_with fail
  generalize hW5 : World.setCell _ _ _ = W5
  have K5 := ((((Qs.nil W1).cons (HK1.out.get 4 rfl)).cons (HK1.out.get 2 rfl)).cons (HK1.out.get 1 rfl)).putTo 1 (w.heap.size + 1) [(0, .int .i64 en), (1, .int .i64 el), (2, .int .i64 ed), (3, .bool eh), (4, .int .u64 ep), (5, .int .u8 eL), (6, .int .u8 eX)] #[.int .i64 en, .int .i64 el, .int .i64 ed, .bool eh, .int .u64 ep, .int .u8 eL, .int .u8 eX] hW5 (by simp only [apBut, apAll, qB, qV, qW, and_true]; exact ⟨(HK1.out.rowV 1).ne (by omega), by omega⟩)
  simp only [List.set] at K5
  clear hW5 C dq nf1
  have C := K5.says
  simp only [sayAll, cellsSay, qB, qW, qV, qZ, Nat.reduceAdd, and_true, true_and] at C
  exact bodyPost_ret (v := .tuple #[.slice A2 (L.map smpR).length c2, .agg #[.int .i64 en, .int .i64 el, .int .i64 ed, .bool eh, .int .u64 ep, .int .u8 eL, .int .u8 eX], .int .i64 cd]) (by simp [results, Tryd.results31, go_sem, C]) rfl ⟨_, rfl, ((K5.rowV 0).mono (by omega)).drew, (K5.top 2).drew⟩

set_option maxHeartbeats 2000000 in
theorem rends_any (A : Option Addr) (c : Nat) (bs : List UInt8) (nb : Int) (w : World) (hbs : Bs w A bs) (hnb : in64 nb) (hlen : bs.length ≤ 100000) :
    Calls Tryd.prog 33 #[.agg #[.slice A bs.length c, .int .i64 nb]] w fun e w' => ∃ v, e = .returned (.tuple #[v, .int .i64 (allC bs nb).2]) ∧ OwnR w' w.heap.size 3 encI 1 v ((allC bs nb).1.map (·.nd)) ∧ Below w.heap.size w w' := by
  have hD := fun (W : World) (hW : Bs W A bs) => rread_any A c bs nb W hW hnb hlen
  unfold RdOut at hD
  generalize allC bs nb = R at hD ⊢
  obtain ⟨L, cd⟩ := R
  dsimp only at hD ⊢
  generalize lastE L = E0 at hD
  obtain ⟨en, el, ed, ⟨eh, ep, eL, eX⟩⟩ := E0
  dsimp only at hD
  obtain ⟨M, hM⟩ : ∃ M, M = L.map (·.nd) := ⟨_, rfl⟩
  rw [← hM] at hD ⊢
  clear hM
  have HD := Lib.hid hD
  have HB := Lib.hid hbs
  clear hbs hD
  have K := (Qs.zero w).box #[.slice A bs.length c, .int .i64 nb] 24
  go_enter Tryd.func33, Tryd.ntmps33
  go_wp2_with fail
  generalize hW0 : World.alloc _ _ = W0
  rw [hW0] at K
  have HK := Lib.hid K
  clear K hW0
  refine (HD.out _ (HB.out.below (HK.out.top 1))).mono ?_
  rintro e w1 ⟨⟨v, u, rfl, hv, hu⟩, b1⟩
  have zW := (HK.out.blk 0).lt
  have K1 := ((HK.out.go b1).cons (k := qV _ _ _ _ _ _) hu).box #[.int .i64 en, .int .i64 el, .int .i64 ed, .bool eh, .int .u64 ep, .int .u8 eL, .int .u8 eX] 48
  obtain ⟨A2, c2, rfl, -⟩ := hu.row Tryd.eltI
  clear HD HK
  go_wp2_with fail
  refine bodyPost_ret (results_tmp2 rfl _ _ _) rfl ?_
  exact ⟨_, rfl, (K1.rowV 1).mono (by omega), K1.top 3⟩

set_option maxHeartbeats 1000000 in
theorem lends_any (V U : Option Addr) (c d : Nat) (a b : List Int) (w : World) (hV : Rw w encI 1 V a) (hU : Rw w encI 1 U b) (hal : a.length ≤ 1000000) (hbl : b.length ≤ 1000000) :
    Calls Tryd.prog 34 #[.slice V a.length c, .slice U b.length d] w fun e w' => e = .returned (.bool (decide (a = b))) ∧ Below w.heap.size w w' := by
  obtain ⟨r, hr⟩ : ∃ r, r = decide (a = b) := ⟨_, rfl⟩
  rw [← hr]
  have HR := Lib.hid hr
  clear hr
  by_cases hlen : a.length = b.length
  · have HL := Lib.hid hlen
    have HV := Lib.hid hV
    have HU := Lib.hid hU
    rw [← hlen]
    clear hlen hV hU hbl
    go_enter Tryd.func34, Tryd.ntmps34
    go_wp2_with fail
    go_loopw [5] (fun i wr => ∃ k : Nat, k ≤ a.length ∧ i = .int .i64 k ∧ Hid (a.take k = b.take k) ∧ Below w.heap.size w wr)
      (fun i _ => a.length - (intOf i).toNat)
    case atStart => exact ⟨0, Nat.zero_le _, rfl, Lib.hid rfl, Below.refl _ _⟩
    case round =>
      obtain ⟨k, hk, rfl, HE, hbel⟩ := hrel
      rcases Nat.lt_or_ge k a.length with hlt | hge
      · have hltb : k < b.length := by have := HL.out; omega
        obtain ⟨p, o, rfl, h1⟩ := (HV.out.below hbel (Nat.le_refl _)) k a[k] (List.getElem?_eq_getElem hlt)
        obtain ⟨p', o', rfl, h3⟩ := (HU.out.below hbel (Nat.le_refl _)) k b[k] (List.getElem?_eq_getElem hltb)
        replace h1 := h1 0 _ rfl
        replace h3 := h3 0 _ rfl
        rw [Nat.mul_one, Nat.add_zero] at h1 h3
        obtain ⟨t, hs⟩ : ∃ t, a[k] = t := ⟨_, rfl⟩
        obtain ⟨t', hs'⟩ : ∃ t, b[k] = t := ⟨_, rfl⟩
        rw [hs] at h1
        rw [hs'] at h3
        have k0 : 0 ≤ (k : Int) := by omega
        have k1 : (k : Int) < a.length := by omega
        by_cases he : t = t'
        · subst he
          have hE2 : a.take (k + 1) = b.take (k + 1) := by
            rw [List.take_succ_eq_append_getElem hlt, List.take_succ_eq_append_getElem hltb, HE.out, hs, hs']
          have HE2 := Lib.hid hE2
          clear hE2 hs hs'
          go_wp2_with fail
          go_quiet (fail)
          go_wp2_with fail
          go_roundw
          case measure => simp [intOf]; omega
          case rel => exact ⟨k + 1, hlt, by go_num, HE2, below_drewN hbel nq⟩
        · have hne : a ≠ b := by
            intro e
            subst e
            exact he (hs.symm.trans hs')
          have Hd := Lib.hid (show r = false by rw [HR.out]; simpa using hne)
          have kt : (t == t') = false := beq_eq_false_iff_ne.2 he
          clear hs hs' hne he
          go_wp2_with fail
          go_quiet (fail)
          go_wp2_with fail
          go_ret
          exact ⟨by rw [Hd.out]; rfl, below_drewN hbel nq⟩
      · obtain rfl : k = a.length := by omega
        have hab : a = b := by
          have h := HE.out
          rw [List.take_length, HL.out, List.take_length] at h
          exact h
        have Hd := Lib.hid (show r = true by rw [HR.out]; simpa using hab)
        clear hab
        go_wp2_with fail
        go_ret
        exact ⟨by rw [Hd.out]; rfl, hbel⟩
  · have Hd := Lib.hid (show r = false by rw [HR.out]; exact decide_eq_false (fun e => hlen (by rw [e])))
    have kl : ((a.length : Int) == (b.length : Int)) = false := beq_eq_false_iff_ne.2 (by omega)
    clear hlen
    go_enter Tryd.func34, Tryd.ntmps34
    go_wp2_with fail
    go_ret
    exact ⟨by rw [Hd.out]; rfl, Below.refl _ _⟩

end Go.Proofs.YtgnppnjhecfjeaaDoor

/- Layer 6: the walk of ChunkReads. -/
namespace Go.Proofs.YtgnppnjhecfjeaaDoor
open Go.RowKit
set_option maxRecDepth 100000

theorem OwnR.asRw {P : Program} {α : Type} {W : World} {b : Nat} {t e : TypeId} {enc : α → List Value} {sz bytes n c : Nat} {V : Option Addr} {X : List α} (h : OwnR W b e enc sz (.slice V n c) X) (E : Elt P t e enc sz bytes) : Rw W enc sz V X := by
  obtain ⟨V', c', hv, _, hr⟩ := h.row E
  injection hv with e1 e2 e3
  subst e1
  exact hr

set_option maxHeartbeats 2000000 in
theorem chunkReads_walk (A : Option Addr) (c : Nat) (l : List UInt8) (nb : Int) (w : World) (hb : Bs w A l) (hnb : in64 nb) (hl : l.length ≤ maxLen) (hT : Tab w) :
    Calls Tryd.prog 9 #[.agg #[.slice A l.length c, .int .i64 nb]] w fun e w' => e = .returned (.bool true) ∧ Below w.heap.size w w' := by
  have HT := Lib.hid hT
  have HB := Lib.hid hb
  clear hT hb
  unfold maxLen at hl
  have K := (Qs.zero w).box #[.slice A l.length c, .int .i64 nb] 24
  by_cases hlen : 600 < l.length
  · have hI : (600 : Int) < l.length := by omega
    have HK := Lib.hid K
    clear K
    go_enter Tryd.func9, Tryd.ntmps9
    go_wp2_with fail
    refine (cknown_any _ (tabGo HT.out (HK.out.top 1))).mono ?_
    rintro e w1 ⟨rfl, b1⟩
    go_wp2_with fail
    go_ret
    exact ⟨rfl, on1 (HK.out.top 1) b1⟩
  · have hI : ¬ (600 : Int) < l.length := by omega
    go_enter Tryd.func9, Tryd.ntmps9
    have HK := Lib.hid K
    clear K
    go_wp2_with fail
    refine (cknown_any _ (tabGo HT.out (HK.out.top 1))).mono ?_
    rintro e w1 ⟨rfl, b1⟩
    replace HK := Lib.hid (HK.out.go b1)
    clear b1
    have C := HK.out.says
    simp only [sayAll, cellsSay, qB, qW, qV, qZ, Nat.reduceAdd, and_true, true_and] at C
    have hcd := allC_code l nb
    have hle := allC_len (l := l) (nb := nb) (by omega)
    have hP1 := fun (W : World) (hW : Below w.heap.size w W) => call_any A c l nb W (HB.out.below hW) hnb (by omega) (tabGo HT.out hW)
    have hP2 := fun (W : World) (hW : Below w.heap.size w W) => rall_any A c l nb W (HB.out.below hW) hnb (by omega)
    have hP3 := fun (W : World) (hW : Below w.heap.size w W) => cends_any A c l nb W (HB.out.below hW) hnb (by omega) (tabGo HT.out hW)
    have hP4 := fun (W : World) (hW : Below w.heap.size w W) => rends_any A c l nb W (HB.out.below hW) hnb (by omega)
    generalize allC l nb = R at hcd hle hP1 hP2 hP3 hP4
    obtain ⟨L, cd⟩ := R
    dsimp only at hcd hle hP1 hP2 hP3 hP4
    obtain ⟨S, hS⟩ : ∃ S, S = L.map smpR := ⟨_, rfl⟩
    obtain ⟨M, hM⟩ : ∃ M, M = L.map (·.nd) := ⟨_, rfl⟩
    have hSl : S.length ≤ 4096 := by rw [hS, List.length_map]; omega
    have hMl : M.length ≤ 1000000 := by rw [hM, List.length_map]; omega
    generalize lastE L = E0 at hP1 hP2
    obtain ⟨en, el, ed, ⟨eh, ep, eL, eX⟩⟩ := E0
    rw [← hS] at hP1 hP2
    rw [← hM] at hP3 hP4
    dsimp only at hP1 hP2
    have HP1 := Lib.hid hP1
    have HP2 := Lib.hid hP2
    have HP3 := Lib.hid hP3
    have HP4 := Lib.hid hP4
    have hwr : IntKind.i64.wrap (cd : Int) = (cd : Int) := by rw [IntKind.wrap_i64]; omega
    have HSl := Lib.hid hSl
    have HMl := Lib.hid hMl
    clear hP1 hP2 hP3 hP4 hS hM hle hcd hSl hMl
    go_wp2_with fail
    refine (HP1.out _ (HK.out.top 1)).mono ?_
    clear HP1 C
    rintro e w2 ⟨v, rfl, hv, b2⟩
    obtain ⟨A2, c2, rfl, -, h2⟩ := hv.row Tryd.eltS
    have K2 := ((HK.out.go b2).cons (k := qV _ _ _ _ _ _) hv).box #[.int .i64 en, .int .i64 el, .int .i64 ed, .bool eh, .int .u64 ep, .int .u8 eL, .int .u8 eX] 48
    replace HK := Lib.hid K2
    clear K2 hv b2 h2
    have C := HK.out.says
    simp only [sayAll, cellsSay, qB, qW, qV, qZ, Nat.reduceAdd, and_true, true_and] at C
    go_wp2_with fail
    refine (HP2.out _ (HK.out.top 3)).mono ?_
    clear HP2 C
    rintro e w3 ⟨v, rfl, hv, b3⟩
    obtain ⟨A3, c3, rfl, -, h3⟩ := hv.row Tryd.eltS
    have K3 := ((HK.out.go b3).cons (k := qV _ _ _ _ _ _) hv).box #[.int .i64 en, .int .i64 el, .int .i64 ed, .bool eh, .int .u64 ep, .int .u8 eL, .int .u8 eX] 48
    replace HK := Lib.hid K3
    clear K3 hv b3 h3
    have C := HK.out.says
    simp only [sayAll, cellsSay, qB, qW, qV, qZ, Nat.reduceAdd, and_true, true_and] at C
    go_wp2_with fail
    refine (HP3.out _ (HK.out.top 5)).mono ?_
    clear HP3 C
    rintro e w4 ⟨v, rfl, hv, b4⟩
    obtain ⟨A4, c4, rfl, -, h4⟩ := hv.row Tryd.eltI
    have K4 := (HK.out.go b4).cons (k := qV _ _ _ _ _ _) hv
    replace HK := Lib.hid K4
    clear K4 hv b4 h4
    have C := HK.out.says
    simp only [sayAll, cellsSay, qB, qW, qV, qZ, Nat.reduceAdd, and_true, true_and] at C
    go_wp2_with fail
    refine (HP4.out _ (HK.out.top 6)).mono ?_
    clear HP4 C
    rintro e w5 ⟨v, rfl, hv, b5⟩
    obtain ⟨A5, c5, rfl, -, h5⟩ := hv.row Tryd.eltI
    have K5 := (HK.out.go b5).cons (k := qV _ _ _ _ _ _) hv
    replace HK := Lib.hid K5
    clear K5 hv b5 h5
    have C := HK.out.says
    simp only [sayAll, cellsSay, qB, qW, qV, qZ, Nat.reduceAdd, and_true, true_and] at C
    go_wp2_with fail
    refine (csame_any A2 A3 c2 c3 S S _ ((HK.out.rowV 5).asRw Tryd.eltS).ss ((HK.out.rowV 3).asRw Tryd.eltS).ss HSl.out HSl.out).mono ?_
    rintro e w6 ⟨rfl, b6⟩
    replace HK := Lib.hid (HK.out.go b6)
    clear C b6
    have C := HK.out.says
    simp only [sayAll, cellsSay, qB, qW, qV, qZ, Nat.reduceAdd, and_true, true_and] at C
    rw [decide_eq_true (rfl : S = S)]
    go_wp2_with fail
    refine (lends_any A4 A5 c4 c5 M M _ ((HK.out.rowV 1).asRw Tryd.eltI) ((HK.out.rowV 0).asRw Tryd.eltI) HMl.out HMl.out).mono ?_
    rintro e w7 ⟨rfl, b7⟩
    replace HK := Lib.hid (HK.out.go b7)
    rw [decide_eq_true (rfl : M = M)]
    clear C b7
    go_wp2_with fail
    go_ret
    exact ⟨by simp, HK.out.top 7⟩

end Go.Proofs.YtgnppnjhecfjeaaDoor
