/- Joined: Chk17, Chk19, Chk21, Chk18. -/
import Derived.Test.YtmcdollkmlcpbaaGreatDoorQ36
import Derived.RegionIn
import Derived.Test.YtmcdollkmlcpbaaGreatDoorQ33
import Derived.Deep.RegionHeld3
import Derived.Test.YtmcdollkmlcpbaaGreatDoorQ32
import Derived.Test.YtmcdollkmlcpbaaGreatDoorQ7
import Derived.Test.YtmcdollkmlcpbaaGreatDoorQ4
import Derived.Test.YtmcdollkmlcpbaaGreatDoorQ24
import Derived.Test.YtmcdollkmlcpbaaGreatDoorQ34
set_option linter.unusedSimpArgs false
set_option linter.unusedVariables false
namespace Go.Proofs.YtmcdollkmlcpbaaGreatDoor
open Go.RowKit Go.Shelf
set_option maxRecDepth 100000
theorem creadings_any (A : Option Addr) (k c : Nat) (nb : Int) (w : World) :
  Calls Tryz.prog 48 #[.agg #[.slice A k c, .int .i64 nb]] w fun e w' => e = .returned (.func (.func 61) #[] #[.pointer (some ⟨w.heap.size, 0, none⟩)]) ∧ w' = w.alloc (.cells #[.slice A k c, .int .i64 nb] 33) := by
 go_enter Tryz.func48, Tryz.ntmps48
 go_wp2
 go_ret
 exact ⟨rfl, rfl⟩
def encI (x : Int) : List Value := [.int .i64 x]
theorem Tryz.eltI : Elt Tryz.prog 93 3 encI 1 8 := ⟨Tryz.underlying93, ⟨.int .i64 0, by kernel_rfl, rfl⟩, by decide, fun _ => rfl, fun x v h => by
 simp [encI] at h
 subst h
 rfl⟩
theorem Blk.only {W : World} {g : Nat} {t u : TypeId} {cs cs' : Array Value} (h : Blk W g t cs) (ht : t ≠ u) : ¬ Blk W g u cs' := fun k => by
 have e := Option.some.inj (h.symm.trans k)
 injection e with _ e2 _
 exact ht e2
theorem OwnR.home {W : World} {α : Type} {base sz : Nat} {e : TypeId} {enc : α → List Value} {v : Value} {l : List α} (h : OwnR W base e enc sz v l) {k : Nat} (hk : v.ownBlock = some k) : base ≤ k ∧ ∃ cs, Blk W k e cs := by
 rcases h.2 with ⟨rfl, _⟩ | ⟨g, cap, cur, rfl, hbg, hgg, _⟩
 ·cases hk
 ·cases hk
  exact ⟨hbg, cur, hgg⟩
section
variable {n0 : Nat}
theorem KpR.trans {A B C : World} (h : KpR n0 A B) (k : KpR n0 B C) : KpR n0 A C := ⟨h.below.trans k.below, fun i cs b => k.rd i cs (h.rd i cs b), fun i cs b => k.bits i cs (h.bits i cs b)⟩
theorem KpR.of_below {W W' : World} (h : Below W.heap.size W W') (hn : n0 ≤ W.heap.size) : KpR n0 W W' := ⟨h.mono hn, fun _ _ b => b.below h b.lt, fun _ _ b => b.below h b.lt⟩
theorem KpR.put {W : World} {l : Nat} {o : Obj} (o' : Obj) (hn : n0 ≤ l) (hl : W.heap[l]? = some o) (ho : o.isCells = false) : KpR n0 W (W.putObj l o') := by
 have hg := grownBy_putObj' W l o'
 have hlt := (Array.getElem?_eq_some_iff.1 hl).1
 have hk : ∀ k t cs, Blk W k t cs → (some l : Option Nat) ≠ some k := fun k t cs b e => by
  injection e with e
  subst e
  have := hl.symm.trans b
  injection this with this
  subst this
  cases ho
 exact ⟨(Below.refl n0 W).grown hg (by omega) (fun k e => by injection e with e; omega), fun k cs b => b.kept hg (hk k _ cs b), fun k cs b => b.kept hg (hk k _ cs b)⟩
structure KpK (n0 : Nat) (W0 w : World) : Prop where
 kp : KpR n0 W0 w
 sz : W0.heap.size ≤ w.heap.size
 oth : ∀ (k : Nat) (o : Obj), W0.heap[k]? = some o → o.isCells = false → w.heap[k]? = some o
 n0le : n0 ≤ w.heap.size
def apK (n0 : Nat) (W0 : World) (g : Nat) : Prop := n0 ≤ g ∧ (W0.heap.size ≤ g ∨ ∃ t cs, t ≠ 122 ∧ t ≠ 33 ∧ Blk W0 g t cs)
theorem KpK.refl {W : World} (h : n0 ≤ W.heap.size) : KpK n0 W W := ⟨.of_below (Below.refl _ _) h, Nat.le_refl _, fun _ _ h _ => h, h⟩
theorem KpK.keeps {W w : World} (h : KpK n0 W w) (B : Nat) : KeepsFrom B W w := ⟨h.sz, fun k o _ ho hc => h.oth k o ho hc⟩
def qK (n0 : Nat) (W0 : World) : Kq := ⟨fun w => KpK n0 W0 w, fun g => apK n0 W0 g, fun _ => True, (fun w w' r h hg ha => by
 have ne : ∀ k t cs, Blk W0 k t cs → (t = 122 ∨ t = 33) → r ≠ some k := fun k t cs b ht e => by
  obtain ⟨_, h1 | ⟨t', cs', h1, h2, h3⟩⟩ := ha k e
  ·have := b.lt; omega
  ·rcases ht with rfl | rfl
   ·exact h3.only h1 b
   ·exact h3.only h2 b
 refine ⟨⟨h.kp.below.grown hg h.n0le (fun g e => (ha g e).1), fun k cs b => (h.kp.rd k cs b).kept hg (ne k _ cs b (.inl rfl)), fun k cs b => (h.kp.bits k cs b).kept hg (ne k _ cs b (.inr rfl))⟩, Nat.le_trans h.sz hg.size, fun k o ho hc => ?_, Nat.le_trans h.n0le hg.size⟩
 have h1 := h.oth k o ho hc
 refine (hg.block k (Array.getElem?_eq_some_iff.1 h1).1 (fun e => ?_)).trans h1
 obtain ⟨_, h2 | ⟨t', cs', _, _, h3⟩⟩ := ha k e.symm
 ·have := (Array.getElem?_eq_some_iff.1 ho).1; omega
 ·have := ho.symm.trans h3
  injection this with this
  subst this
  cases hc), fun _ _ => trivial⟩
end
theorem creadings_seq (n : Nat) (hn : 1 ≤ n) (Bn : Nat) (w w1 : World) (A : Option Addr) (c : Nat) (bs : List UInt8) (nb : Int) (hbs : Bs w A bs) (hnb : in64 nb) (hlen : bs.length ≤ 100000) (hT : Tab w)
  (hb : Below w.heap.size w w1) (hB : Blk w1 Bn 33 #[.slice A bs.length c, .int .i64 nb]) :
  SeqT Fence.wide n Tryz.prog 122 61 #[.pointer (some ⟨Bn, 0, none⟩)] (fun x : RC => #[.agg x.cells]) (KpR w.heap.size) (fun ys => ys = rdsC bs nb) (fun pre => pre <+: rdsC bs nb) 800001 w1 := by
 intro l J Jx W hW hJ _ hY h0
 exact rds1_in n hn l Bn w A c bs nb hbs hnb hlen hT J Jx W hJ hY (hb.trans (hW.mono hb.size)) (hB.below hW hB.lt) h0
theorem appR1In {F : Fence} {n : Nat} {P : Program} {α : Type} {t e : TypeId} {enc : α → List Value} {sz bytes : Nat} (E : Elt P t e enc sz bytes) (w : World) {ops : Array Oper} {rest : List Oper} {o : Oper} {a : Act} {Q : Exit → Act → World → Prop} (hgd : o.guard = none) (s x : Operand)
  (ho : o.op = .call { callee := .builtin .append, args := #[s, x], argTypes := #[t, t] })
  (base : Nat) (v : Value) (L : List α) (hs : a.eval s = v) (hown : OwnR w base e enc sz v L) (g c : Nat) (y : α) (u : TypeId) (cs : Array Value)
  (hx : a.eval x = .slice (some ⟨g, 0, none⟩) 1 c) (hb : Blk w g u cs) (hcs : cs = (enc y).toArray) (hlen : L.length + 1 ≤ maxLen) (hbytes : (L.length + 1) * bytes ≤ 140737488355328) (hbase : base ≤ w.heap.size)
  (h : ∀ g' c' w', OwnR w' base e enc sz (.slice (some ⟨g', 0, none⟩) (L.length + 1) c') (L ++ [y]) → w.grownBy w' v.ownBlock → base ≤ g' → wpListIn F n P ops Q rest (a.put o.dst (.slice (some ⟨g', 0, none⟩) (L.length + 1) c')) w') : wpListIn F n P ops Q (o :: rest) a w := by
 subst hcs
 obtain ⟨z, hinfo, hzs⟩ := E.info
 obtain ⟨i, hi, hz, hsz, hby⟩ := info_parts hinfo
 refine wpListIn_append_own (P := P) w hgd s x t ho base e i z sz bytes E.under hi hz hsz hby hzs E.pos v L.length (L.flatMap enc) hs hown ⟨g, 0, none⟩ 1 c (enc y) hx (by rw [E.len, Nat.one_mul]) ?_ (E.one y) hlen hbytes hbase fun v' w' h2 h3 _ => ?_
 ·intro j u hj
  rw [addS, hb.cell, Nat.zero_add]
  simpa using hj
 ·have h4 : OwnR w' base e enc sz v' (L ++ [y]) := by unfold OwnR; rw [List.length_append, List.flatMap_append]; simpa using h2
  rcases h4.2 with ⟨_, h0⟩ | ⟨g', cap, cur, hv, hg, _⟩
  ·simp at h0
  ·rw [List.length_append] at hv
   subst hv
   exact h g' cap w' h4 h3 hg
theorem got_c (l : List UInt8) (m : Nat) (e : EC) (a : Int) : (gotC l m e a).c = 0 ∨ (gotC l m e a).c = 61 := by
 unfold gotC
 split
 ·exact .inr rfl
 ·split
  ·exact .inr rfl
  ·exact .inl rfl
theorem rdC_bad (l : List UInt8) (m : Nat) : ∀ f e a x, x ∈ rdC l m f e a → x.c ≠ 0 → x.c = 61
 | 0, _, _, _, h, _ => by simp [rdC] at h
 | f + 1, e, a, x, h, hc => by
  unfold rdC at h
  split at h
  ·cases h
  ·rcases List.mem_cons.1 h with rfl | h
   ·exact (got_c l m e a).resolve_left hc
   ·split at h
    ·exact rdC_bad l m f _ _ x h hc
    ·cases h
def allC (l : List UInt8) (nb : Int) : List RC × Nat := if soundB l nb = false then ([], 11) else if ∀ x ∈ rdsC l nb, x.c = 0 then (rdsC l nb, 0) else ([], 61)
theorem all_done {l : List UInt8} {nb : Int} (h : ∀ x ∈ rdsC l nb, x.c = 0) : allC l nb = (rdsC l nb, 0) := by
 unfold allC
 split
 ·rename_i hs
  unfold rdsC at h
  rw [if_pos hs] at h
  have := h _ List.mem_cons_self
  simp [rc0] at this
 ·first | rfl | rw [if_pos h]
theorem all_stop {l : List UInt8} {nb : Int} {x : RC} (h : x ∈ rdsC l nb) (hc : x.c ≠ 0) : allC l nb = ([], x.c) := by
 unfold allC
 split
 ·rename_i hs
  unfold rdsC at h
  rw [if_pos hs, List.mem_singleton] at h
  subst h
  rfl
 ·rename_i hs
  have hn : ¬ ∀ x ∈ rdsC l nb, x.c = 0 := fun h2 => hc (h2 x h)
  try rw [if_neg hn]
  unfold rdsC at h
  rw [if_neg hs] at h
  rw [rdC_bad _ _ _ _ _ _ h hc]
end Go.Proofs.YtmcdollkmlcpbaaGreatDoor
namespace Go.Proofs.YtmcdollkmlcpbaaGreatDoor
open Go.RowKit Go.Shelf
set_option maxRecDepth 100000
attribute [local go_sem] Oper.semAt_some
def lastE (l : List RC) : EC := match l.getLast? with
 | some x => x.e
 | none => ec0
theorem lastE_snoc (l : List RC) (x : RC) : lastE (l ++ [x]) = x.e := by simp [lastE]
def smpR (x : RC) : Int × Nat := (x.t, x.v)
set_option maxHeartbeats 4000000 in
theorem call_any (A : Option Addr) (c : Nat) (bs : List UInt8) (nb : Int) (w : World) (hbs : Bs w A bs) (hnb : in64 nb) (hlen : bs.length ≤ 100000) (hT : Tab w) :
  Calls Tryz.prog 30 #[.agg #[.slice A bs.length c, .int .i64 nb]] w fun e w' => ∃ v, e = .returned (.tuple #[v, .agg #[.int .i64 (lastE (allC bs nb).1).n, .int .i64 (lastE (allC bs nb).1).last, .int .i64 (lastE (allC bs nb).1).delta, .bool (lastE (allC bs nb).1).val.has, .int .u64 (lastE (allC bs nb).1).val.prev, .int .u8 (lastE (allC bs nb).1).val.lead, .int .u8 (lastE (allC bs nb).1).val.width], .int .u16 (allC bs nb).2]) ∧ OwnR w' w.heap.size 42 smp 2 v ((allC bs nb).1.map smpR) ∧ Below w.heap.size w w' := by
 have hmx : Tryz.prog.follows .mixedOrders = true := by kernel_rfl
 have hd1 : 1 ≤ 3 - 1 - 1 := by decide
 obtain ⟨R, hR⟩ : ∃ R, R = allC bs nb := ⟨_, rfl⟩
 rw [← hR]
 have HR := Lib.hid hR
 have HB := Lib.hid hbs
 have HT := Lib.hid hT
 have HN := Lib.hid hnb
 have HL := Lib.hid hlen
 clear hbs hT hR hnb hlen
 refine (callsIn_wide (n := 3)).1 ?_
 refine callsIn_of_wp_marks Tryz.func30 rfl trivial ?_ rfl
 simp only [Tryz.ntmps30, List.size_toArray, List.length_cons, List.length_nil, Nat.reduceAdd, Nat.reduceSub, Array.replicate_succ, Array.replicate_zero, List.push_toArray, List.append_toArray, List.nil_append, List.cons_append]
 gi_wp2_with (refine ⟨trivial, ?_⟩; gi_at_call 48; refine (callsIn_wide.2 (creadings_any A bs.length c nb _)).mono ?_; rintro e w1 ⟨rfl, rfl⟩)
 have K := (((((((Qs.zero w).box #[.slice A bs.length c, .int .i64 nb] 33).box #[.slice none 0 0] 51).box #[.int .i64 0, .int .i64 0, .int .i64 0, .bool false, .int .u64 0, .int .u8 0, .int .u8 0] 88).box #[.int .u16 0] 46).box #[.slice none 0 0] 51).box #[.int .i64 0, .int .i64 0, .int .i64 0, .bool false, .int .u64 0, .int .u8 0, .int .u8 0] 88).box #[.slice A bs.length c, .int .i64 nb] 33
 simp only [World.size_alloc] at K
 generalize hW0 : World.alloc _ _ = W0
 rw [hW0] at K
 have z0 : W0.heap.size = w.heap.size + 1 + 1 + 1 + 1 + 1 + 1 + 1 := by rw [← hW0]; simp only [World.size_alloc]
 have HK := Lib.hid K
 clear K hW0
 have n1 : (51 : TypeId) ≠ 122 := by decide
 have n2 : (46 : TypeId) ≠ 122 := by decide
 have n3 : (42 : TypeId) ≠ 122 := by decide
 have n4 : (88 : TypeId) ≠ 122 := by decide
 refine wpIn_rangeT 122 rfl (by omega) (gf := 61) (lb := #[.pointer (some ⟨w.heap.size + 1 + 1 + 1 + 1 + 1 + 1, 0, none⟩)]) rfl trivial (enters_of Tryz.func61 (by kernel_rfl) rfl)
  (creadings_seq 2 (by decide) _ w W0 A c bs nb HB.out HN.out HL.out HT.out (HK.out.top 7) (HK.out.blk 0)) (fun _ _ _ h k => h.trans k) (fun W l o o' hl ho hc => KpR.put o' (by omega) ho hc) (Below.refl _ _) (fun _ => rfl)
  (fun pre W => Below w.heap.size w W ∧ Blk W (w.heap.size + 1) 51 #[.slice none 0 0] ∧ Blk W (w.heap.size + 1 + 1) 88 #[.int .i64 0, .int .i64 0, .int .i64 0, .bool false, .int .u64 0, .int .u8 0, .int .u8 0] ∧ Blk W (w.heap.size + 1 + 1 + 1) 46 #[.int .u16 0] ∧ (∃ v, Blk W (w.heap.size + 1 + 1 + 1 + 1) 51 #[v] ∧ OwnR W W0.heap.size 42 smp 2 v (pre.map smpR)) ∧ Blk W (w.heap.size + 1 + 1 + 1 + 1 + 1) 88 #[.int .i64 (lastE pre).n, .int .i64 (lastE pre).last, .int .i64 (lastE pre).delta, .bool (lastE pre).val.has, .int .u64 (lastE pre).val.prev, .int .u8 (lastE pre).val.lead, .int .u8 (lastE pre).val.width] ∧ (∀ x ∈ pre, x.c = 0) ∧ W0.heap.size ≤ W.heap.size)
  (fun cd pre W => cd = .ret ∧ (∃ x ∈ pre, x.c ≠ 0 ∧ Blk W (w.heap.size + 1 + 1 + 1) 46 #[.int .u16 x.c]) ∧ Below w.heap.size w W ∧ Blk W (w.heap.size + 1) 51 #[.slice none 0 0] ∧ Blk W (w.heap.size + 1 + 1) 88 #[.int .i64 0, .int .i64 0, .int .i64 0, .bool false, .int .u64 0, .int .u8 0, .int .u8 0])
  (fun x a' W => ∃ g, W0.heap.size ≤ g ∧ a' = { tmps := #[.agg #[.slice A bs.length c, .int .i64 nb], .pointer (some ⟨w.heap.size, 0, none⟩), .pointer (some ⟨w.heap.size + 1, 0, none⟩), .pointer (some ⟨w.heap.size + 1 + 1, 0, none⟩), .pointer (some ⟨w.heap.size + 1 + 1 + 1, 0, none⟩), .pointer (some ⟨w.heap.size + 1 + 1 + 1 + 1, 0, none⟩), .pointer (some ⟨w.heap.size + 1 + 1 + 1 + 1 + 1, 0, none⟩), .pointer (some ⟨g, 0, none⟩), .agg #[.slice A bs.length c, .int .i64 nb], .func (.func 61) #[] #[.pointer (some ⟨w.heap.size + 1 + 1 + 1 + 1 + 1 + 1, 0, none⟩)], .agg x.cells, undef, undef, undef, undef, undef, undef, undef, undef, undef, undef, undef, undef, undef, undef, undef], defers := [] } ∧ Blk W g 122 x.cells)
  (fun s B C h k => ⟨k.below h.1 (by omega) h.1.size, k.blk h.2.1 (.inl n1), k.blk h.2.2.1 (.inl n4), k.blk h.2.2.2.1 (.inl n2), h.2.2.2.2.1.elim fun v hv => ⟨v, k.blk hv.1 (.inl n1), k.row hv.2 n3⟩, k.blk h.2.2.2.2.2.1 (.inl n4), h.2.2.2.2.2.2.1, Nat.le_trans h.2.2.2.2.2.2.2 k.size⟩)
  (fun cd s B C h k => ⟨h.1, h.2.1.elim fun x hx => ⟨x, hx.1, hx.2.1, k.blk hx.2.2 (.inl n2)⟩, k.below h.2.2.1 (by omega) h.2.2.1.size, k.blk h.2.2.2.1 (.inl n1), k.blk h.2.2.2.2 (.inl n4)⟩)
  ⟨HK.out.top 7, HK.out.blk 5, HK.out.blk 4, HK.out.blk 3, ⟨_, HK.out.blk 2, OwnR.nil _ _ _ _ _⟩, HK.out.blk 1, (fun x h => by cases h), Nat.le_refl _⟩
  (fun x a' W l o o' hl hc h => h.elim fun g hg => ⟨g, hg.1, hg.2.1, hg.2.2.kept (grownBy_putObj' W l o') (fun e => by
   injection e with e
   subst e
   have := hl.symm.trans hg.2.2
   injection this with this
   subst this
   cases hc)⟩)
  ?assign ?body ?done ?stop
 case assign =>
  rintro l pre x W KK ⟨tB, b1, b2, b3, ⟨v, b4, hrow⟩, b6, hgood, hz⟩ hzz hK
  obtain ⟨rt, rv, rn, ⟨en, el, ed, ⟨eh, ep, eL, eX⟩⟩, rc⟩ := x
  have b5 := below_alloc W (.cells (RC.cells ⟨rt, rv, rn, ⟨en, el, ed, ⟨eh, ep, eL, eX⟩⟩, rc⟩) 122)
  have bn := Blk.new W 122 (RC.cells ⟨rt, rv, rn, ⟨en, el, ed, ⟨eh, ep, eL, eX⟩⟩, rc⟩)
  simp only [RC.cells] at hK b5 bn ⊢
  gi_wp2
  refine hK _ _ ⟨b5.size, fun k o _ ho _ => (b5.block k (Array.getElem?_eq_some_iff.1 ho).1).trans ho⟩ (KpR.of_below b5 tB.size) ⟨tB.trans (b5.mono tB.size), b1.below b5 b1.lt, b2.below b5 b2.lt, b3.below b5 b3.lt, ⟨v, b4.below b5 b4.lt, hrow.below b5⟩, b6.below b5 b6.lt, hgood, Nat.le_trans hz b5.size⟩ ⟨W.heap.size, hz, rfl, bn⟩
 case body =>
  rintro ll pre x a' W ⟨tB, b1, b2, b3, ⟨v, b4, hrow⟩, b6, hgood, hz⟩ ⟨g, hg, rfl, bg⟩ hlt
  obtain ⟨rt, rv, rn, ⟨en, el, ed, ⟨eh, ep, eL, eX⟩⟩, rc⟩ := x
  generalize lastE pre = E0 at b6
  obtain ⟨ln, ll', ld, ⟨lh, lp, lL, lX⟩⟩ := E0
  simp only [RC.cells] at bg ⊢
  dsimp only at b6
  have K := ((((((Qs.nil W).cons (k := qK w.heap.size W) (KpK.refl tB.size)).cons (k := qW w w.heap.size (Nat.le_refl _)) ⟨tB, tB.size⟩).cons (k := qB _ _ _) b1).cons (k := qB _ _ _) b2).cons (k := qB _ _ _) b3).cons (k := qB _ _ _) b4 |>.cons (k := qB _ _ _) b6 |>.cons (k := qB _ _ _) bg
  have HK := Lib.hid K
  have C := K.says
  simp only [sayAll, cellsSay, qB, qW, qO, qR, qZ, qK, Nat.reduceAdd, and_true, true_and] at C
  have Ha1 := Lib.hid (show apK w.heap.size W (w.heap.size + 1) from ⟨by omega, .inr ⟨_, _, by decide, by decide, b1⟩⟩)
  have Ha2 := Lib.hid (show apK w.heap.size W (w.heap.size + 1 + 1) from ⟨by omega, .inr ⟨_, _, by decide, by decide, b2⟩⟩)
  have Ha3 := Lib.hid (show apK w.heap.size W (w.heap.size + 1 + 1 + 1) from ⟨by omega, .inr ⟨_, _, by decide, by decide, b3⟩⟩)
  have Ha4 := Lib.hid (show apK w.heap.size W (w.heap.size + 1 + 1 + 1 + 1) from ⟨by omega, .inr ⟨_, _, by decide, by decide, b4⟩⟩)
  have Ha5 := Lib.hid (show apK w.heap.size W (w.heap.size + 1 + 1 + 1 + 1 + 1) from ⟨by omega, .inr ⟨_, _, by decide, by decide, b6⟩⟩)
  have Hao : Hid (∀ k, v.ownBlock = some k → g ≠ k ∧ W0.heap.size ≤ k ∧ apK w.heap.size W k) := Lib.hid fun k e => by
   obtain ⟨h1, cs, h2⟩ := hrow.home e
   exact ⟨fun e2 => by subst e2; exact h2.only n3 bg, h1, by omega, .inr ⟨_, _, by decide, by decide, h2⟩⟩
  have Hrow := Lib.hid hrow
  have Hgood := Lib.hid hgood
  have Hlen : Hid ((pre.map smpR).length < 800001) := Lib.hid (by rw [List.length_map]; exact hlt)
  obtain ⟨nds, hnds⟩ : ∃ nds, nds = pre.map smpR := ⟨_, rfl⟩
  rw [← hnds] at Hrow Hlen
  have Hnds := Lib.hid hnds
  clear K hrow hgood hnds b1 b2 b3 b4 b6 bg tB
  by_cases hc : rc = 0
  ·subst hc
   gi_upto_region 8 with (gi_at_builtin; refine appR1In Tryz.eltS _ rfl (.tmp 17) (.tmp 20) rfl W0.heap.size v nds rfl (Hrow.out.alloc _) W.heap.size 1 (rt, rv) 42 _ rfl (Blk.new W _ _) rfl (by have := Hlen.out; unfold maxLen; omega) (by have := Hlen.out; omega) (by simp; omega) ?_; intro g2 c2 w2 hown2 hgr2 hb2; have HK2 := Lib.hid (((HK.out.alloc _).grow hgr2 (fun k e => by obtain ⟨e1, e2, e3⟩ := Hao.out k e; simp only [apAll, qB, qW, qK, e3, and_true]; omega)).row_ hown2); have C2 := HK2.out.says; simp only [sayAll, cellsSay, qB, qW, qO, qR, qZ, qK, Nat.reduceAdd, and_true, true_and] at C2; clear hgr2)
   generalize hW4 : World.setCell _ _ _ = W4
   have K4 := HK2.out.putTo 3 (w.heap.size + 1 + 1 + 1 + 1) [(0, .slice (some ⟨g2, 0, none⟩) (nds.length + 1) c2)] #[.slice (some ⟨g2, 0, none⟩) (nds.length + 1) c2] hW4 (by simp only [List.set, apBut, apAll, qB, qW, qO, qR, qZ, qK, Ha4.out, and_true]; omega)
   simp only [List.set] at K4
   clear C C2 hW4
   have HK4 := Lib.hid K4
   have C := K4.says
   simp only [sayAll, cellsSay, qB, qW, qO, qR, qZ, qK, Nat.reduceAdd, and_true, true_and] at C
   clear K4
   gi_wp2
   generalize hW5 : World.setCell _ _ _ = W5
   have K5 := HK4.out.putTo 2 (w.heap.size + 1 + 1 + 1 + 1 + 1) [(0, .int .i64 en), (1, .int .i64 el), (2, .int .i64 ed), (3, .bool eh), (4, .int .u64 ep), (5, .int .u8 eL), (6, .int .u8 eX)] #[.int .i64 en, .int .i64 el, .int .i64 ed, .bool eh, .int .u64 ep, .int .u8 eL, .int .u8 eX] hW5 (by simp only [List.set, apBut, apAll, qB, qW, qO, qR, qZ, qK, Ha5.out, and_true]; omega)
   simp only [List.set] at K5
   have kk := K5.get 8 rfl
   refine ⟨KpK.keeps kk _, KpK.kp kk, K5.top 7, K5.blk 6, K5.blk 5, K5.blk 4, ⟨_, K5.blk 3, ?_⟩, ?_, ?_, Nat.le_trans hz (KpK.sz kk)⟩
   ·rw [List.map_append, ← Hnds.out]
    exact K5.row 0
   ·rw [lastE_snoc]
    exact K5.blk 2
   ·intro y hy
    rcases List.mem_append.1 hy with h | h
    ·exact Hgood.out y h
    ·rw [List.mem_singleton.1 h]
  ·have kc : ((rc : Int) == 0) = false := beq_eq_false_iff_ne.2 (by omega)
   have kd : ((rc : Int) != 0) = true := by simpa using hc
   gi_wp2
   gi_region
   all_goals
    gi_wp2
    generalize hW5 : World.setCell _ _ _ = W5
    have K5 := (((HK.out.put 5 (w.heap.size + 1) [(0, .slice none 0 0)] #[.slice none 0 0] (by simp only [List.set, apBut, apAll, qB, qW, qO, qR, qZ, qK, Ha1.out, and_true]; omega)).put 4 (w.heap.size + 1 + 1) [(0, .int .i64 0), (1, .int .i64 0), (2, .int .i64 0), (3, .bool false), (4, .int .u64 0), (5, .int .u8 0), (6, .int .u8 0)] #[.int .i64 0, .int .i64 0, .int .i64 0, .bool false, .int .u64 0, .int .u8 0, .int .u8 0] (by simp only [List.set, apBut, apAll, qB, qW, qO, qR, qZ, qK, Ha2.out, and_true]; omega)).putTo 3 (w.heap.size + 1 + 1 + 1) [(0, .int .u16 rc)] #[.int .u16 rc] hW5 (by simp only [List.set, apBut, apAll, qB, qW, qO, qR, qZ, qK, Ha3.out, and_true]; omega)).drew
    simp only [List.set] at K5
    exact ⟨KpK.keeps (K5.get 7 rfl) _, rfl, ⟨_, List.mem_append_right _ (List.mem_singleton.2 rfl), hc, K5.blk 3⟩, K5.top 6, K5.blk 5, K5.blk 4⟩
 case done =>
  rintro D ys W hD hys ⟨tB, b1, b2, b3, ⟨v, b4, hrow⟩, b6, hgood, hz⟩ hK
  subst hys
  have hRe := HR.out.trans (all_done hgood)
  subst hRe
  obtain ⟨V, m, rfl, -⟩ := hrow.row Tryz.eltS
  obtain ⟨nds, hnds⟩ : ∃ nds, nds = (rdsC bs nb).map smpR := ⟨_, rfl⟩
  obtain ⟨E0, hE0⟩ : ∃ E0, E0 = lastE (rdsC bs nb) := ⟨_, rfl⟩
  rw [← hnds] at b4 hrow
  rw [← hE0] at b6
  have Hnds := Lib.hid hnds
  have HE := Lib.hid hE0
  obtain ⟨en, el, ed, ⟨eh, ep, eL, eX⟩⟩ := E0
  dsimp only at b6
  have K := ((((((Qs.nil W).cons (k := qK w.heap.size W) (KpK.refl tB.size)).cons (k := qW w w.heap.size (Nat.le_refl _)) ⟨tB, tB.size⟩).cons (k := qB _ _ _) b1).cons (k := qB _ _ _) b2).cons (k := qB _ _ _) b3).cons (k := qB _ _ _) b4 |>.cons (k := qB _ _ _) b6 |>.row_ hrow
  have HK := Lib.hid K
  have C := K.says
  simp only [sayAll, cellsSay, qB, qW, qO, qR, qZ, qK, Nat.reduceAdd, and_true, true_and] at C
  have Ha1 := Lib.hid (show apK w.heap.size W (w.heap.size + 1) from ⟨by omega, .inr ⟨_, _, by decide, by decide, b1⟩⟩)
  have Ha2 := Lib.hid (show apK w.heap.size W (w.heap.size + 1 + 1) from ⟨by omega, .inr ⟨_, _, by decide, by decide, b2⟩⟩)
  have Ha3 := Lib.hid (show apK w.heap.size W (w.heap.size + 1 + 1 + 1) from ⟨by omega, .inr ⟨_, _, by decide, by decide, b3⟩⟩)
  have HD := Lib.hid hK
  clear K hgood hnds hE0 b1 b2 b3 b4 b6 tB hrow HR hK
  gi_wp2
  gi_region
  all_goals
   gi_wp2
   generalize hW5 : World.setCell _ _ _ = W5
   have K5 := (((HK.out.put 5 (w.heap.size + 1) [(0, .slice V nds.length m)] #[.slice V nds.length m] (by simp only [List.set, apBut, apAll, qB, qW, qO, qR, qZ, qK, Ha1.out, and_true]; omega)).put 4 (w.heap.size + 1 + 1) [(0, .int .i64 en), (1, .int .i64 el), (2, .int .i64 ed), (3, .bool eh), (4, .int .u64 ep), (5, .int .u8 eL), (6, .int .u8 eX)] #[.int .i64 en, .int .i64 el, .int .i64 ed, .bool eh, .int .u64 ep, .int .u8 eL, .int .u8 eX] (by simp only [List.set, apBut, apAll, qB, qW, qO, qR, qZ, qK, Ha2.out, and_true]; omega)).putTo 3 (w.heap.size + 1 + 1 + 1) [(0, .int .u16 0)] #[.int .u16 0] hW5 (by simp only [List.set, apBut, apAll, qB, qW, qO, qR, qZ, qK, Ha3.out, and_true]; omega)).drew
   simp only [List.set] at K5
   have hD5 := KpK.oth (K5.get 7 rfl) D _ HD.out rfl
   have K6 := (((((Qs.nil W5.drew).cons (K5.get 6 rfl)).cons (K5.get 5 rfl)).cons (K5.get 4 rfl)).cons (K5.get 3 rfl)).grow (grownBy_putObj' W5.drew D (.deferred none)) (fun k e => by injection e with e; subst e; simp only [apAll, qB, qW, and_true]; omega)
   have C6 := K6.says
   simp only [sayAll, cellsSay, qB, qW, qO, qR, qZ, qK, Nat.reduceAdd, and_true, true_and] at C6
   refine ⟨by simp, .inl ⟨_, _, rfl, run_takeDeferred hD5, ?_⟩⟩
   refine ⟨.tuple #[.slice V nds.length m, .agg #[.int .i64 en, .int .i64 el, .int .i64 ed, .bool eh, .int .u64 ep, .int .u8 eL, .int .u8 eX], .int .u16 0], by simp [results, Tryz.results30, go_sem, C6], ?_⟩
   refine ⟨_, by rw [← HE.out], ?_, K6.top 3⟩
   rw [← Hnds.out]
   exact OwnR.mono (show OwnR _ W0.heap.size 42 smp 2 _ nds from ownsRow_putObj (K5.row 0) _ hD5 rfl) (by omega)
 case stop =>
  rintro D cd pre W hD hp ⟨rfl, ⟨x, hx, hne, b3⟩, tB, b1, b2⟩ hK
  have hRe := HR.out.trans (all_stop (hp.subset hx) hne)
  subst hRe
  gi_wp2
  have K6 := (((((Qs.nil W).cons (k := qW w w.heap.size (Nat.le_refl _)) ⟨tB, tB.size⟩).cons (k := qB _ _ _) b1).cons (k := qB _ _ _) b2).cons (k := qB _ _ _) b3).grow (grownBy_putObj' W D (.deferred none)) (fun k e => by injection e with e; subst e; simp only [apAll, qB, qW, and_true]; omega)
  have C6 := K6.says
  simp only [sayAll, cellsSay, qB, qW, qO, qR, qZ, qK, Nat.reduceAdd, and_true, true_and] at C6
  refine ⟨by simp, .inl ⟨_, _, rfl, run_takeDeferred hK, ?_⟩⟩
  exact ⟨.tuple #[.slice none 0 0, .agg #[.int .i64 0, .int .i64 0, .int .i64 0, .bool false, .int .u64 0, .int .u8 0, .int .u8 0], .int .u16 x.c], by simp [results, Tryz.results30, go_sem, C6], _, rfl, OwnR.nil _ _ _ _ _, K6.top 3⟩
end Go.Proofs.YtmcdollkmlcpbaaGreatDoor
namespace Go.Proofs.YtmcdollkmlcpbaaGreatDoor
open Go.RowKit
set_option maxRecDepth 100000
theorem rdC_len (l : List UInt8) (m : Nat) : ∀ (f : Nat) (e : EC) (a : Nat), OkC e → 0 ≤ e.n → e.n + ((m - a : Nat) : Int) < 1000000 → a ≤ m → 2 * (rdC l m f e a).length ≤ (m - a) + 2
 | 0, _, _, _, _, _, _ => by simp [rdC]
 | f + 1, e, a, he, hn, hb, ha => by
  unfold rdC
  split
  ·simp
  ·rename_i hlt
   by_cases hc : (gotC l m e a).c = 0
   ·obtain ⟨h1, h2, k, h3, h4, h5⟩ := got_good (l := l) he ⟨hn, by omega⟩ ha hc
    rw [if_pos hc, h3, Int.toNat_natCast]
    have := rdC_len l m f (gotC l m e a).e (a + k) h1 (by rw [h2]; omega) (by rw [h2]; omega) h5
    simp only [List.length_cons]
    omega
   ·rw [if_neg hc]
    simp
theorem allC_len {l : List UInt8} {nb : Int} (hl : l.length ≤ 100000) : (allC l nb).1.length ≤ 4 * l.length + 1 := by
 unfold allC
 split
 ·simp
 ·rename_i hs
  split
  ·obtain ⟨m, rfl, hm8, -⟩ := sound_nat (by simpa using hs)
   unfold rdsC
   rw [if_neg hs, Int.toNat_natCast]
   have := rdC_len l m m ec0 0 ok0 (Int.le_refl _) (by show (0 : Int) + _ < _; omega) (Nat.zero_le _)
   show (rdC l m m ec0 0).length ≤ _
   omega
  ·simp
end Go.Proofs.YtmcdollkmlcpbaaGreatDoor
namespace Go.Proofs.YtmcdollkmlcpbaaGreatDoor
open Go.RowKit Go.Shelf
set_option maxRecDepth 100000
attribute [local go_sem] Oper.semAt_some
set_option maxHeartbeats 4000000 in
theorem cends_any (A : Option Addr) (c : Nat) (bs : List UInt8) (nb : Int) (w : World) (hbs : Bs w A bs) (hnb : in64 nb) (hlen : bs.length ≤ 100000) (hT : Tab w) :
  Calls Tryz.prog 69 #[.agg #[.slice A bs.length c, .int .i64 nb]] w fun e w' => ∃ v, e = .returned (.tuple #[v, .int .u16 (allC bs nb).2]) ∧ OwnR w' w.heap.size 3 encI 1 v ((allC bs nb).1.map (·.nd)) ∧ Below w.heap.size w w' := by
 have hmx : Tryz.prog.follows .mixedOrders = true := by kernel_rfl
 have hd1 : 1 ≤ 3 - 1 - 1 := by decide
 obtain ⟨R, hR⟩ : ∃ R, R = allC bs nb := ⟨_, rfl⟩
 rw [← hR]
 have HR := Lib.hid hR
 have HB := Lib.hid hbs
 have HT := Lib.hid hT
 have HN := Lib.hid hnb
 have HL := Lib.hid hlen
 clear hbs hT hR hnb hlen
 refine (callsIn_wide (n := 3)).1 ?_
 refine callsIn_of_wp_marks Tryz.func69 rfl trivial ?_ rfl
 simp only [Tryz.ntmps69, List.size_toArray, List.length_cons, List.length_nil, Nat.reduceAdd, Nat.reduceSub, Array.replicate_succ, Array.replicate_zero, List.push_toArray, List.append_toArray, List.nil_append, List.cons_append]
 gi_wp2_with (refine ⟨trivial, ?_⟩; gi_at_call 48; refine (callsIn_wide.2 (creadings_any A bs.length c nb _)).mono ?_; rintro e w1 ⟨rfl, rfl⟩)
 have K := (((((Qs.zero w).box #[.slice A bs.length c, .int .i64 nb] 33).box #[.slice none 0 0] 93).box #[.int .u16 0] 46).box #[.slice none 0 0] 93).box #[.slice A bs.length c, .int .i64 nb] 33
 simp only [World.size_alloc] at K
 generalize hW0 : World.alloc _ _ = W0
 rw [hW0] at K
 have z0 : W0.heap.size = w.heap.size + 1 + 1 + 1 + 1 + 1 := by rw [← hW0]; simp only [World.size_alloc]
 have HK := Lib.hid K
 clear K hW0
 obtain ⟨b0, hb0⟩ : ∃ b0, b0 = w.heap.size := ⟨_, rfl⟩
 have n1 : (93 : TypeId) ≠ 122 := by decide
 have n2 : (46 : TypeId) ≠ 122 := by decide
 have n3 : (3 : TypeId) ≠ 122 := by decide
 refine wpIn_rangeT 122 rfl (by omega) (gf := 61) (lb := #[.pointer (some ⟨w.heap.size + 1 + 1 + 1 + 1, 0, none⟩)]) rfl trivial (enters_of Tryz.func61 (by kernel_rfl) rfl)
  (creadings_seq 2 (by decide) _ w W0 A c bs nb HB.out HN.out HL.out HT.out (HK.out.top 5) (HK.out.blk 0)) (fun _ _ _ h k => h.trans k) (fun W l o o' hl ho hc => KpR.put o' (by omega) ho hc) (Below.refl _ _) (fun _ => rfl)
  (fun pre W => Below w.heap.size w W ∧ Blk W (w.heap.size + 1) 93 #[.slice none 0 0] ∧ Blk W (w.heap.size + 1 + 1) 46 #[.int .u16 0] ∧ (∃ v, Blk W (w.heap.size + 1 + 1 + 1) 93 #[v] ∧ OwnR W W0.heap.size 3 encI 1 v (pre.map (·.nd))) ∧ (∀ x ∈ pre, x.c = 0) ∧ W0.heap.size ≤ W.heap.size)
  (fun cd pre W => cd = .ret ∧ (∃ x ∈ pre, x.c ≠ 0 ∧ Blk W (w.heap.size + 1 + 1) 46 #[.int .u16 x.c]) ∧ Below w.heap.size w W ∧ Blk W (w.heap.size + 1) 93 #[.slice none 0 0])
  (fun x a' W => ∃ g, W0.heap.size ≤ g ∧ a' = { tmps := #[.agg #[.slice A bs.length c, .int .i64 nb], .pointer (some ⟨w.heap.size, 0, none⟩), .pointer (some ⟨w.heap.size + 1, 0, none⟩), .pointer (some ⟨w.heap.size + 1 + 1, 0, none⟩), .pointer (some ⟨w.heap.size + 1 + 1 + 1, 0, none⟩), .pointer (some ⟨g, 0, none⟩), .agg #[.slice A bs.length c, .int .i64 nb], .func (.func 61) #[] #[.pointer (some ⟨w.heap.size + 1 + 1 + 1 + 1, 0, none⟩)], .agg x.cells, undef, undef, undef, undef, undef, undef, undef, undef, undef, undef, undef], defers := [] } ∧ Blk W g 122 x.cells)
  (fun s B C h k => ⟨k.below h.1 (by omega) h.1.size, k.blk h.2.1 (.inl n1), k.blk h.2.2.1 (.inl n2), h.2.2.2.1.elim fun v hv => ⟨v, k.blk hv.1 (.inl n1), k.row hv.2 n3⟩, h.2.2.2.2.1, Nat.le_trans h.2.2.2.2.2 k.size⟩)
  (fun cd s B C h k => ⟨h.1, h.2.1.elim fun x hx => ⟨x, hx.1, hx.2.1, k.blk hx.2.2 (.inl n2)⟩, k.below h.2.2.1 (by omega) h.2.2.1.size, k.blk h.2.2.2 (.inl n1)⟩)
  ⟨HK.out.top 5, HK.out.blk 3, HK.out.blk 2, ⟨_, HK.out.blk 1, OwnR.nil _ _ _ _ _⟩, (fun x h => by cases h), Nat.le_refl _⟩
  (fun x a' W l o o' hl hc h => h.elim fun g hg => ⟨g, hg.1, hg.2.1, hg.2.2.kept (grownBy_putObj' W l o') (fun e => by
   injection e with e
   subst e
   have := hl.symm.trans hg.2.2
   injection this with this
   subst this
   cases hc)⟩)
  ?assign ?body ?done ?stop
 case assign =>
  rintro l pre x W KK ⟨tB, b1, b2, ⟨v, b3, hrow⟩, hgood, hz⟩ hzz hK
  obtain ⟨rt, rv, rn, ⟨en, el, ed, ⟨eh, ep, eL, eX⟩⟩, rc⟩ := x
  have b5 := below_alloc W (.cells (RC.cells ⟨rt, rv, rn, ⟨en, el, ed, ⟨eh, ep, eL, eX⟩⟩, rc⟩) 122)
  have bn := Blk.new W 122 (RC.cells ⟨rt, rv, rn, ⟨en, el, ed, ⟨eh, ep, eL, eX⟩⟩, rc⟩)
  simp only [RC.cells] at hK b5 bn ⊢
  gi_wp2
  refine hK _ _ ⟨b5.size, fun k o _ ho _ => (b5.block k (Array.getElem?_eq_some_iff.1 ho).1).trans ho⟩ (KpR.of_below b5 tB.size) ⟨tB.trans (b5.mono tB.size), b1.below b5 b1.lt, b2.below b5 b2.lt, ⟨v, b3.below b5 b3.lt, hrow.below b5⟩, hgood, Nat.le_trans hz b5.size⟩ ⟨W.heap.size, hz, rfl, bn⟩
 case body =>
  rintro ll pre x a' W ⟨tB, b1, b2, ⟨v, b3, hrow⟩, hgood, hz⟩ ⟨g, hg, rfl, bg⟩ hlt
  obtain ⟨rt, rv, rn, ⟨en, el, ed, ⟨eh, ep, eL, eX⟩⟩, rc⟩ := x
  simp only [RC.cells] at bg ⊢
  have K := (((((Qs.nil W).cons (k := qK w.heap.size W) (KpK.refl tB.size)).cons (k := qW w w.heap.size (Nat.le_refl _)) ⟨tB, tB.size⟩).cons (k := qB _ _ _) b1).cons (k := qB _ _ _) b2).cons (k := qB _ _ _) b3 |>.cons (k := qB _ _ _) bg
  have HK := Lib.hid K
  have C := K.says
  simp only [sayAll, cellsSay, qB, qW, qO, qR, qZ, qK, Nat.reduceAdd, and_true, true_and] at C
  have a1 : apK w.heap.size W (w.heap.size + 1) := ⟨by omega, .inr ⟨_, _, by decide, by decide, b1⟩⟩
  have a2 : apK w.heap.size W (w.heap.size + 1 + 1) := ⟨by omega, .inr ⟨_, _, by decide, by decide, b2⟩⟩
  have a3 : apK w.heap.size W (w.heap.size + 1 + 1 + 1) := ⟨by omega, .inr ⟨_, _, by decide, by decide, b3⟩⟩
  have ao : ∀ k, v.ownBlock = some k → g ≠ k ∧ W0.heap.size ≤ k ∧ apK w.heap.size W k := fun k e => by
   obtain ⟨h1, cs, h2⟩ := hrow.home e
   exact ⟨fun e2 => by subst e2; exact h2.only n3 bg, h1, by omega, .inr ⟨_, _, by decide, by decide, h2⟩⟩
  have Ha1 := Lib.hid a1
  have Ha2 := Lib.hid a2
  have Ha3 := Lib.hid a3
  have Hao := Lib.hid ao
  have Hrow := Lib.hid hrow
  have Hgood := Lib.hid hgood
  have Hlen : Hid ((pre.map (·.nd)).length < 800001) := Lib.hid (by rw [List.length_map]; exact hlt)
  obtain ⟨nds, hnds⟩ : ∃ nds, nds = pre.map (·.nd) := ⟨_, rfl⟩
  rw [← hnds] at Hrow Hlen
  have Hnds := Lib.hid hnds
  clear K a1 a2 a3 ao hrow hgood hnds b1 b2 b3 bg tB
  by_cases hc : rc = 0
  ·subst hc
   gi_wp2_with (gi_at_builtin; refine appR1In Tryz.eltI _ rfl (.tmp 14) (.tmp 17) rfl W0.heap.size v nds rfl (Hrow.out.alloc _) W.heap.size 1 rn 3 _ rfl (Blk.new W _ _) rfl (by have := Hlen.out; unfold maxLen; omega) (by have := Hlen.out; omega) (by simp; omega) ?_; intro g2 c2 w2 hown2 hgr2 hb2; have HK2 := Lib.hid (((HK.out.alloc _).grow hgr2 (fun k e => by obtain ⟨e1, e2, e3⟩ := Hao.out k e; simp only [apAll, qB, qW, qK, e3, and_true]; omega)).row_ hown2); have C2 := HK2.out.says; simp only [sayAll, cellsSay, qB, qW, qO, qR, qZ, qK, Nat.reduceAdd, and_true, true_and] at C2; clear hgr2)
   generalize hW5 : World.setCell _ _ _ = W5
   have K5 := HK2.out.putTo 2 (w.heap.size + 1 + 1 + 1) [(0, .slice (some ⟨g2, 0, none⟩) (nds.length + 1) c2)] #[.slice (some ⟨g2, 0, none⟩) (nds.length + 1) c2] hW5 (by simp only [apBut, apAll, qB, qW, qO, qR, qZ, qK, Ha3.out, and_true]; omega)
   have kk := K5.get 6 rfl
   refine ⟨KpK.keeps kk _, KpK.kp kk, K5.top 5, K5.blk 4, K5.blk 3, ⟨_, K5.blk 2, ?_⟩, ?_, Nat.le_trans hz (KpK.sz kk)⟩
   ·rw [List.map_append, ← Hnds.out]
    exact K5.row 0
   ·intro y hy
    rcases List.mem_append.1 hy with h | h
    ·exact Hgood.out y h
    ·rw [List.mem_singleton.1 h]
  ·have kc : ((rc : Int) == 0) = false := beq_eq_false_iff_ne.2 (by omega)
   have kd : ((rc : Int) != 0) = true := by simpa using hc
   gi_wp2
   gi_region
   all_goals
    gi_wp2
    generalize hW5 : World.setCell _ _ _ = W5
    have K5 := ((HK.out.put 3 (w.heap.size + 1) [(0, .slice none 0 0)] #[.slice none 0 0] (by simp only [apBut, apAll, qB, qW, qO, qR, qZ, qK, Ha1.out, and_true]; omega)).putTo 2 (w.heap.size + 1 + 1) [(0, .int .u16 rc)] #[.int .u16 rc] hW5 (by simp only [List.set, apBut, apAll, qB, qW, qO, qR, qZ, qK, Ha2.out, and_true]; omega)).drew
    simp only [List.set] at K5
    exact ⟨KpK.keeps (K5.get 5 rfl) _, rfl, ⟨_, List.mem_append_right _ (List.mem_singleton.2 rfl), hc, K5.blk 2⟩, K5.top 4, K5.blk 3⟩
 case done =>
  rintro D ys W hD hys ⟨tB, b1, b2, ⟨v, b3, hrow⟩, hgood, hz⟩ hK
  subst hys
  have hRe := HR.out.trans (all_done hgood)
  subst hRe
  obtain ⟨V, m, rfl, -⟩ := hrow.row Tryz.eltI
  have K := (((((Qs.nil W).cons (k := qK w.heap.size W) (KpK.refl tB.size)).cons (k := qW w w.heap.size (Nat.le_refl _)) ⟨tB, tB.size⟩).cons (k := qB _ _ _) b1).cons (k := qB _ _ _) b2).cons (k := qB _ _ _) b3 |>.row_ hrow
  have HK := Lib.hid K
  have C := K.says
  simp only [sayAll, cellsSay, qB, qW, qO, qR, qZ, qK, Nat.reduceAdd, and_true, true_and] at C
  have Ha1 := Lib.hid (show apK w.heap.size W (w.heap.size + 1) from ⟨by omega, .inr ⟨_, _, by decide, by decide, b1⟩⟩)
  have Ha2 := Lib.hid (show apK w.heap.size W (w.heap.size + 1 + 1) from ⟨by omega, .inr ⟨_, _, by decide, by decide, b2⟩⟩)
  obtain ⟨nds, hnds⟩ : ∃ nds, nds = (rdsC bs nb).map (·.nd) := ⟨_, rfl⟩
  rw [← hnds] at C HK
  have Hnds := Lib.hid hnds
  have HD := Lib.hid hK
  clear K hgood hnds b1 b2 b3 tB hrow HR hK
  gi_wp2
  generalize hW5 : World.setCell _ _ _ = W5
  have K5 := ((HK.out.put 3 (w.heap.size + 1) [(0, .slice V nds.length m)] #[.slice V nds.length m] (by simp only [apBut, apAll, qB, qW, qO, qR, qZ, qK, Ha1.out, and_true]; omega)).putTo 2 (w.heap.size + 1 + 1) [(0, .int .u16 0)] #[.int .u16 0] hW5 (by simp only [List.set, apBut, apAll, qB, qW, qO, qR, qZ, qK, Ha2.out, and_true]; omega))
  simp only [List.set] at K5
  have hD5 := KpK.oth (K5.get 5 rfl) D _ HD.out rfl
  have K6 := ((((Qs.nil W5).cons (K5.get 4 rfl)).cons (K5.get 3 rfl)).cons (K5.get 2 rfl)).grow (grownBy_putObj' W5 D (.deferred none)) (fun k e => by injection e with e; subst e; simp only [apAll, qB, qW, and_true]; omega)
  have C6 := K6.says
  simp only [sayAll, cellsSay, qB, qW, qO, qR, qZ, qK, Nat.reduceAdd, and_true, true_and] at C6
  refine ⟨by simp, .inl ⟨_, _, rfl, run_takeDeferred hD5, ?_⟩⟩
  refine ⟨.tuple #[.slice V nds.length m, .int .u16 0], by simp [results, Tryz.results69, go_sem, C6], ?_⟩
  refine ⟨_, rfl, ?_, K6.top 2⟩
  rw [← Hnds.out]
  exact OwnR.mono (show OwnR _ W0.heap.size 3 encI 1 _ nds from ownsRow_putObj (K5.row 0) _ hD5 rfl) (by omega)
 case stop =>
  rintro D cd pre W hD hp ⟨rfl, ⟨x, hx, hne, b2⟩, tB, b1⟩ hK
  have hRe := HR.out.trans (all_stop (hp.subset hx) hne)
  subst hRe
  gi_wp2
  have K6 := ((((Qs.nil W).cons (k := qW w w.heap.size (Nat.le_refl _)) ⟨tB, tB.size⟩).cons (k := qB _ _ _) b1).cons (k := qB _ _ _) b2).grow (grownBy_putObj' W D (.deferred none)) (fun k e => by injection e with e; subst e; simp only [apAll, qB, qW, and_true]; omega)
  have C6 := K6.says
  simp only [sayAll, cellsSay, qB, qW, qO, qR, qZ, qK, Nat.reduceAdd, and_true, true_and] at C6
  refine ⟨by simp, .inl ⟨_, _, rfl, run_takeDeferred hK, ?_⟩⟩
  exact ⟨.tuple #[.slice none 0 0, .int .u16 x.c], by simp [results, Tryz.results69, go_sem, C6], _, rfl, OwnR.nil _ _ _ _ _, K6.top 2⟩
end Go.Proofs.YtmcdollkmlcpbaaGreatDoor
