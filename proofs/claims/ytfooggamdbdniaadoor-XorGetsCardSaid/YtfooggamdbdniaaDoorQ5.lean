/- Joined: Tail, Xr18, MathH, Xr19, Kp, Xr20, Ref7, Xr21. -/
import Derived.Test.YtfooggamdbdniaaDoorQ1
import Derived.StillTail
import Derived.Test.YtfooggamdbdniaaDoorQ4
import Derived.Test.YtfooggamdbdniaaDoorQ2
set_option linter.unusedSimpArgs false
set_option linter.unusedVariables false
/-
  A region that draws its order: a head of operations that read, compute, and call functions that make memory of their own and hand back plain values; behind it a tail in one forced order that may do whatever it likes. One walk in the order of the text serves every order.
-/
namespace Go.Proofs.YtfooggamdbdniaaDoor
open Go.RowKit

section
variable {P : Program} {md : Region.Mode} {ops : Array Oper} {C : World → Prop}

/-- so many operations of the head, each quiet in the class, in whatever order; then L -/
def headIn (P : Program) (md : Region.Mode) (ops : Array Oper) (C : World → Prop) (n : Nat) (L : Array Bool → Act → Prop) : Nat → Array Bool → Act → Prop
  | 0, seen, a => L seen a
  | f + 1, seen, a => Region.ready md ops seen ≠ [] ∧ ∀ i ∈ Region.ready md ops seen, i < n ∧ qOp P ops C i (headIn P md ops C n L f (seen.setIfInBounds i true)) a

theorem any_of_headIn {n g : Nat} {L : Array Bool → Act → Prop} {Q' : Exit → Act → World → Prop} (hL : ∀ seen a w, C w → L seen a → wpAny P md ops Q' g seen a w) (f : Nat) :
    ∀ (seen : Array Bool) (a : Act) (w : World), C w → headIn P md ops C n L f seen a → wpAny P md ops Q' (f + g) seen a w := by
  induction f with
  | zero => intro seen a w hw h; rw [Nat.zero_add]; exact hL seen a w hw h
  | succ f ih =>
    intro seen a w hw h
    rw [show f + 1 + g = (f + g) + 1 by omega]
    exact ⟨fun h0 => absurd h0 h.1, fun i hi => wpOp_of_qOp hw (fun a' w' hw' h' => ih _ a' w' hw' h') (h.2 i hi).2⟩

/-- one that may come up may be taken first -/
theorem headIn_first {n i : Nat} {oi : Oper} {v : Value} {L : Array Bool → Act → Prop} (hi : ops[i]? = some oi) (hsel : ∀ (j : Nat) (o : Oper) cs b, ops[j]? = some o → o.op ≠ .select cs b)
    (hs : Region.sinkB md ops n = true) (hc : Region.chainB md ops n = true) (hn : n < ops.size) (hin : i < n)
    (hdone : ∀ seen a, L seen a → ∀ j ∈ Region.ready md ops seen, n ≤ j) (f : Nat) :
    ∀ (seen : Array Bool) (a : Act), HeadInv md ops n seen →
      (∀ j oj, ops[j]? = some oj → j ≠ i → seen.getD j true = false → (∀ e ∈ oj.after, Region.binds md e = true → e.on ≠ i) → oi.apart ops oj = true) →
      i ∈ Region.ready md ops seen → YieldsIn P ops C oi v a →
      headIn P md ops C n L f (seen.setIfInBounds i true) (a.put oi.dst v) → headIn P md ops C n L (f + 1) seen a := by
  induction f with
  | zero =>
    intro seen a inv _ hr hy H
    have hun := (mem_ready.1 hr).1
    refine ⟨fun h => (by rw [h] at hr; cases hr), fun j hj => ?_⟩
    have hjn : j < n := by
      apply Classical.byContradiction
      intro h
      exact tail_waits hs hc hn inv _ i rfl hin hun j (by omega) hj
    refine ⟨hjn, ?_⟩
    rcases Classical.em (j = i) with hji | hji
    · subst hji; exact hy.qOp hi H
    · have := hdone _ _ H j (ready_mono hj hji)
      omega
  | succ f ih =>
    intro seen a inv hfree hr hy H
    have hun := (mem_ready.1 hr).1
    refine ⟨fun h => (by rw [h] at hr; cases hr), fun j hj => ?_⟩
    have hjn : j < n := by
      apply Classical.byContradiction
      intro h
      exact tail_waits hs hc hn inv _ i rfl hin hun j (by omega) hj
    refine ⟨hjn, ?_⟩
    rcases Classical.em (j = i) with hji | hji
    · subst hji; exact hy.qOp hi H
    · have h1 := (H.2 j (ready_mono hj hji)).2
      obtain ⟨hjun, oj, hoj, hall⟩ := mem_ready.1 hj
      have hnot : ∀ e ∈ oj.after, Region.binds md e = true → e.on ≠ i := fun e he hb heq => by
        have h1 := hall e he hb
        rw [heq, getD_both hun] at h1
        cases h1
      have h2 := qOp_put hoj (hfree j oj hoj hji hjun hnot) (fun cs b => hsel i oi cs b hi) (fun cs b => hsel j oj cs b hoj) hy h1
      refine qOp_mono (fun a' h3 => ih (seen.setIfInBounds j true) a' (inv.set hj hjn) (fun k ok hk hki hun' hno => hfree k ok hk hki ?_ hno) (ready_mono hr (Ne.symm hji)) h3.1 ?_) h2
      · rcases Classical.em (j = k) with hjk | hjk
        · subst hjk; exact hjun
        · rw [getD_set_ne true hjk] at hun'; exact hun'
      · rw [Array.setIfInBounds_comm _ _ hji]
        exact h3.2

theorem headIn_lex {n g : Nat} {Lq : Act → Prop} (hsel : Region.noSelect ops = true) (hs : Region.sinkB md ops n = true) (hc : Region.chainB md ops n = true) (hn : n < ops.size) (l : List Oper) :
    ∀ (k : Nat) (seen : Array Bool) (a : Act), (∀ j, j < l.length → l[j]? = ops[k + j]?) → k + l.length = n → HeadInv md ops n seen →
    Region.lexHead md ops g l.length k seen = true → wpQuiet P ops C Lq l a →
    headIn P md ops C n (fun seen' a' => Region.seqB md ops g n seen' = true ∧ Lq a') l.length seen a := by
  induction l with
  | nil =>
    intro k seen a _ hk _ hB h
    have : k = n := by simpa using hk
    subst this
    exact ⟨by simpa [Region.lexHead] using hB, h⟩
  | cons o l ih =>
    intro k seen a hl hk inv hB h
    have h0 : ops[k]? = some o := by simpa using (hl 0 (by simp)).symm
    simp only [List.length_cons, Region.lexHead, Bool.and_eq_true] at hB
    obtain ⟨⟨hr, hf⟩, hB'⟩ := hB
    have hkn : k < n := by simp only [List.length_cons] at hk; omega
    have hr' : k ∈ Region.ready md ops seen := by simpa using hr
    have hst : qOp P ops C k (wpQuiet P ops C Lq l) a := by unfold qOp; simp only [h0]; exact h
    obtain ⟨v, hy, hK⟩ := yieldsIn_of_qOp h0 hst
    exact headIn_first h0 (Region.noSelect_spec hsel) hs hc hn hkn (fun seen' a' hL => seqB_ready hL.1) l.length seen a inv (Region.free_spec h0 hf) hr' hy
      (ih (k + 1) _ _ (fun j hj => by have := hl (j + 1) (by simp; omega); simpa [Nat.add_assoc, Nat.add_comm 1 j] using this) (by simp only [List.length_cons] at hk; omega) (inv.set hr' hkn) hB' hK)

theorem wp_region_tail {id : Nat} {Q : Exit → Act → World → Prop} {a : Act} {w : World} {l : List Oper} (n : Nat) (hm : P.follows .mixedOrders = true) (hB : Region.lexTailB .any l.toArray n = true) (hC : C { w with drawn := w.drawn + 1 })
    (h : wpQuiet P l.toArray C (fun a' => ∀ w', C w' → wpList P l.toArray Q (l.drop n) a' w') (l.take n) a) : (Code.region id l.toArray true).wp P Q a w := by
  simp only [Region.lexTailB, Bool.and_eq_true, decide_eq_true_eq] at hB
  obtain ⟨⟨⟨⟨hsel, hn⟩, hs⟩, hc⟩, hlex⟩ := hB
  have hn' : n < l.length := by simpa using hn
  have htl : (l.take n).length = n := by simp; omega
  have hdl : (l.drop n).length = l.toArray.size - n := by simp
  have inv0 : HeadInv .any l.toArray n (Array.replicate l.toArray.size false) :=
    ⟨by simp, fun j oj _ hl => (by rw [getD_replicate_false] at hl; cases hl), fun t _ ht => getD_in (by simpa using ht) (getD_replicate_false _ _)⟩
  have H := headIn_lex (P := P) (C := C) (md := .any) (g := l.toArray.size - n) hsel hs hc hn (l.take n) 0 _ a (fun j hj => by
    have hj' : j < n := by rw [htl] at hj; exact hj
    simp [hj']) (by simpa using htl) inv0 (by rw [htl]; exact hlex) h
  refine wp_region_any hm ?_
  have := any_of_headIn (Q' := Q) (g := l.toArray.size - n) (fun seen a' w' hw' hL => by
    have h1 := wpAny_of_seq (P := P) (md := .any) (ops := l.toArray) (Q' := Q) (l.drop n) n seen a' w' (fun j => by simp) (by rw [hdl]; exact hL.1) (hL.2 w' hw')
    rwa [hdl] at h1) _ _ _ _ hC H
  rw [htl, show n + (l.toArray.size - n) = l.toArray.size by omega] at this
  exact this
end

/-- the class: the world with more blocks -/
theorem wp_region_tail_ext {P : Program} {id : Nat} {Q : Exit → Act → World → Prop} {a : Act} {w : World} {l : List Oper} (n : Nat) (hm : P.follows .mixedOrders = true) (hB : Region.lexTailB .any l.toArray n = true)
    (h : wpQuiet P l.toArray (fun w' => ∃ x, w' = plus w x) (fun a' => ∀ w', (∃ x, w' = plus w x) → wpList P l.toArray Q (l.drop n) a' w') (l.take n) a) : (Code.region id l.toArray true).wp P Q a w :=
  wp_region_tail (C := fun w' => ∃ x, w' = plus w x) n hm hB ⟨⟨#[], w.drawn + 1⟩, by simp [plus]⟩ h

end Go.Proofs.YtfooggamdbdniaaDoor

/- Layer 3's reading of a band and a difference in it. -/
namespace Go.Proofs.YtfooggamdbdniaaDoor
open Go.RowKit

theorem mask6 (L : Nat) (hL : L < 18446744073709551616) : bits .and .u64 (L : Int) 63 = ((L % 64 : Nat) : Int) := by
  have h := bits_mask .u64 64 (by decide) (fun n h0 h1 => by have := wrap_big n.toNat (by omega); rwa [Int.toNat_of_nonneg h0] at this) 6 (by decide) (L : Int) (by omega) (by omega)
  rw [show ((2 : Int) ^ 6 - 1) = 63 from rfl] at h
  rw [h]; omega

set_option maxRecDepth 100000 in
set_option maxHeartbeats 1000000 in
theorem decodeNew_any (A : Option Addr) (c : Nat) (l : List UInt8) (m a L X : Nat) (w : World) (hb : Bs w A l) (hs : soundB l (m : Int) = true) (hl : l.length ≤ 100000) (ha : a ≤ m) (hm : m ≤ 800000) (hLW : L + X ≤ 64) (hT : Tab w) :
    Calls Tryd.prog 39 #[.agg #[.slice A l.length c, .int .i64 m], .int .i64 a, .agg #[.int .i64 L, .int .i64 X]] w fun e w' => DecOut (newD L X ((bitl l m).drop a)) a e ∧ Below w.heap.size w w' := by
  obtain ⟨g1, g2, hG, hc⟩ := new_facts (L := L) (W := X) hs ha
  obtain ⟨D, hD⟩ : ∃ D, D = newD L X ((bitl l m).drop a) := ⟨_, rfl⟩
  rw [← hD] at hc ⊢
  clear hD
  obtain ⟨d0, d1, d2, t0, z0⟩ := three_at w #[.slice A l.length c, .int .i64 m] #[.int .i64 L, .int .i64 X] #[.int .i64 0, .int .i64 0] 29 50 50
  go_enter Tryd.func39, Tryd.ntmps39
  go_wp2_with fail
  generalize (((w.alloc (.cells #[.slice A l.length c, .int .i64 m] 29)).alloc (.cells #[.int .i64 L, .int .i64 X] 50)).alloc (.cells #[.int .i64 0, .int .i64 0] 50)) = W0 at *
  have h := get_any A c l m a 11 W0 (hb.below t0) (by omega) (by omega) (by omega) (by omega)
  rw [hG] at h
  have HG := Lib.hid h
  have HC := Lib.hid hc
  have HT := Lib.hid (tabGo hT t0)
  clear h hG hc hT
  refine HG.out.mono ?_
  rintro e w1 ⟨rfl, b1⟩
  have t1 := on1 t0 b1
  have HA := Lib.hid (d0.below b1 d0.lt)
  have HL := Lib.hid (d1.below b1 d1.lt)
  have HR := Lib.hid (d2.below b1 d2.lt)
  have HT1 := Lib.hid (tabGo HT.out b1)
  have hb1 := Lib.hid ((hb.below t0).below b1)
  have Z1 : w.heap.size + 3 ≤ w1.heap.size := by have := b1.size; omega
  clear HG b1 d0 d1 d2 t0 z0 hb HT
  obtain ⟨⟨r0, r1⟩, r2, r3⟩ := HR.out.duo
  rcases HC.out with ⟨h2, h1, hD⟩ | ⟨h2, h1, ha11, hc⟩
  · have HD := Lib.hid hD
    clear hD
    subst h1 h2
    go_wp2_with fail
    have FR : Blk _ (w.heap.size + 1 + 1) 50 #[.int .i64 0, .int .i64 0] := HR.out.set2 (.int .i64 0) (.int .i64 0)
    obtain ⟨⟨v0, v1⟩, -⟩ := FR.duo
    have TF := (t1.setCell (p := ⟨w.heap.size + 1 + 1, 0, none⟩) (by simp; omega) (.int .i64 0)).setCell (p := ⟨w.heap.size + 1 + 1, 1, none⟩) (by simp; omega) (.int .i64 0)
    refine bodyPost_ret (v := .tuple #[.int .u64 0, .int .i64 0, .agg #[.int .i64 0, .int .i64 0], .int .u16 10]) (by simp [results, Tryd.results39, go_sem, v0, v1]) rfl ⟨⟨0, 0, 0, 0, 10, rfl, by rw [HD.out], fun h => by cases h⟩, TF⟩
  · have Hc := Lib.hid hc
    have Ha11 := Lib.hid ha11
    clear hc ha11 HC
    subst h2
    obtain ⟨p, hp⟩ : ∃ p : Nat, p = g1 / 64 := ⟨_, rfl⟩
    obtain ⟨q, hq⟩ : ∃ q : Nat, q = g1 % 64 := ⟨_, rfl⟩
    obtain ⟨x, hx⟩ : ∃ x : Nat, x = q + 1 := ⟨_, rfl⟩
    have p1 : p < 32 := by omega
    have q1 : q < 64 := by omega
    have x1 : x ≤ 64 := by omega
    have f1 : (g1 : Int) / 64 = (p : Int) := by omega
    have f2 : bits .and .u64 (g1 : Int) 63 = (q : Int) := by rw [hq]; exact mask6 g1 (by omega)
    have f3 : IntKind.i64.wrap (q : Int) = (q : Int) := by rw [IntKind.wrap_i64]; omega
    have f4 : IntKind.i64.wrap ((q : Int) + 1) = (x : Int) := by rw [IntKind.wrap_i64]; omega
    have hc := Hc.out
    rw [← hp, ← hq, ← hx] at hc
    have Hc2 := Lib.hid hc
    have Hx := Lib.hid hx
    have Hp := Lib.hid hp
    have Hq := Lib.hid hq
    clear hc Hc hp hq hx
    go_wp2_with fail
    have eB := below_alloc w1 (.cells #[.int .i64 p, .int .i64 x] 50)
    have HB := Lib.hid (Blk.new w1 50 #[.int .i64 p, .int .i64 x])
    refine (behind_any p x _ (by omega) (by omega)).mono ?_
    rintro e w2 ⟨rfl, b2⟩
    have b12 := on1 eB b2
    have t2 := on1 t1 b12
    have HA2 := Lib.hid (HA.out.below b12 HA.out.lt)
    have HL2 := Lib.hid (HL.out.below b12 HL.out.lt)
    have HR2 := Lib.hid (HR.out.below b12 HR.out.lt)
    have HB2 := Lib.hid (HB.out.below b2 HB.out.lt)
    have HT2 := Lib.hid (tabGo HT1.out b12)
    have hb2 := Lib.hid (hb1.out.below b12)
    have Z2 : w.heap.size + 3 ≤ w2.heap.size := by have := b12.size; omega
    clear eB b2 b12 HA HL HR HB HT1 hb1 r0 r1 r2 r3 t1
    obtain ⟨⟨r0, r1⟩, r2, r3⟩ := HR2.out.duo
    obtain ⟨⟨y0, y1⟩, -⟩ := HB2.out.duo
    obtain ⟨⟨u0, u1⟩, -⟩ := HA2.out.duo
    rcases Hc2.out with ⟨h64, hD⟩ | ⟨h64, hc⟩
    · have HD := Lib.hid hD
      have k1 : (64 : Int) - p - x < 0 := by omega
      clear hD h64
      go_wp2_with fail
      have FR : Blk _ (w.heap.size + 1 + 1) 50 #[.int .i64 0, .int .i64 0] := HR2.out.set2 (.int .i64 0) (.int .i64 0)
      obtain ⟨⟨v0, v1⟩, -⟩ := FR.duo
      have TF := (t2.setCell (p := ⟨w.heap.size + 1 + 1, 0, none⟩) (by simp; omega) (.int .i64 0)).setCell (p := ⟨w.heap.size + 1 + 1, 1, none⟩) (by simp; omega) (.int .i64 0)
      refine bodyPost_ret (v := .tuple #[.int .u64 0, .int .i64 0, .agg #[.int .i64 0, .int .i64 0], .int .u16 30]) (by simp [results, Tryd.results39, go_sem, v0, v1]) rfl ⟨⟨0, 0, 0, 0, 30, rfl, by rw [HD.out], fun h => by cases h⟩, TF⟩
    · obtain ⟨s0, hs0⟩ : ∃ s0 : Nat, s0 = 64 - p - x := ⟨_, rfl⟩
      have hs0' : (64 : Int) - p - x = s0 := by omega
      have f5 : IntKind.i64.wrap ((a : Int) + 11) = ((a + 11 : Nat) : Int) := by rw [IntKind.wrap_i64]; omega
      obtain ⟨a11, ha11⟩ : ∃ a11 : Nat, a11 = a + 11 := ⟨_, rfl⟩
      rw [← ha11] at f5
      have Ha := Ha11.out
      obtain ⟨n1, n2, hG, hn1, hc⟩ := hc
      rw [← hs0] at hc
      rw [← ha11] at hG
      have h := get_any A c l m a11 x w2 hb2.out (by omega) (by omega) (by omega) (by omega)
      rw [hG] at h
      have HG := Lib.hid h
      have Hc3 := Lib.hid hc
      have Ha' := Lib.hid ha11
      have Hn1 := Lib.hid hn1
      have Hs0 := Lib.hid hs0
      rw [hs0']
      have HS0' := Lib.hid hs0'
      clear hG hc h ha11 Ha hn1 hs0
      go_wp2_with fail
      refine HG.out.mono ?_
      rintro e w3 ⟨rfl, b3⟩
      have t3 := on1 t2 b3
      have HL3 := Lib.hid (HL2.out.below b3 HL2.out.lt)
      have HR3 := Lib.hid (HR2.out.below b3 HR2.out.lt)
      have HB3 := Lib.hid (HB2.out.below b3 HB2.out.lt)
      have HT3 := Lib.hid (tabGo HT2.out b3)
      have Z3 : w.heap.size + 3 ≤ w3.heap.size := by have := b3.size; omega
      clear HG b3 HA2 HL2 HR2 HB2 HT2 hb2 r0 r1 r2 r3 y0 y1 u0 u1 t2
      obtain ⟨⟨y0, y1⟩, -⟩ := HB3.out.duo
      have hsh := shl_lt (g := n1) (W := x) (L := p) Hn1.out (by omega)
      rw [← Hs0.out] at hsh
      obtain ⟨d, hd⟩ : ∃ d : Nat, d = n1 * 2 ^ s0 := ⟨_, rfl⟩
      rw [← hd] at hsh
      have f6 : IntKind.u64.wrap ((n1 : Int) * 2 ^ s0) = (d : Int) := by
        have e : ((n1 : Int) * 2 ^ s0) = (d : Int) := by rw [hd]; simp
        rw [e, IntKind.wrap_u64]; omega
      have j4 : min s0 64 = s0 := by have := Hs0.out; omega
      have hc := Hc3.out
      rw [← hd] at hc
      have Hc4 := Lib.hid hc
      have Hsh := Lib.hid hsh
      clear hc Hc3 hd hsh hs0'
      go_wp2_with fail
      refine (behind_any p x _ (by omega) (by omega)).mono ?_
      rintro e w4 ⟨rfl, b4⟩
      have t4 := on1 t3 b4
      have HL4 := Lib.hid (HL3.out.below b4 HL3.out.lt)
      have HR4 := Lib.hid (HR3.out.below b4 HR3.out.lt)
      have HB4 := Lib.hid (HB3.out.below b4 HB3.out.lt)
      have HT4 := Lib.hid (tabGo HT3.out b4)
      have Z4 : w.heap.size + 3 ≤ w4.heap.size := by have := b4.size; omega
      clear b4 HL3 HR3 HB3 HT3 y0 y1 t3 Z2 Z3
      obtain ⟨⟨y0, y1⟩, -⟩ := HB4.out.duo
      obtain ⟨⟨l0, l1⟩, -⟩ := HL4.out.duo
      obtain ⟨⟨r0, r1⟩, r2, r3⟩ := HR4.out.duo
      rw [HS0'.out]
      go_wp2_with fail
      have hp := plus_cell w4
      rcases Hc4.out with ⟨h2, h1, hD⟩ | ⟨h2, hc⟩
      · have k1 : ((n2 : Int) == 0) = false := by rw [h2]; rfl
        have HD := Lib.hid hD
        clear hD
        refine wp_region_tail_ext 10 (by kernel_rfl) (by kernel_rfl) ?_
        simp only [List.take_succ_cons, List.take_zero, List.drop_succ_cons, List.drop_zero]
        repeat (go_big_quiet_step (fail))
        refine wpQuiet_nil ?_
        rintro w5 ⟨z, rfl⟩
        have hz := plus_below w4 z
        have HL5 := Lib.hid (HL4.out.below hz HL4.out.lt)
        have HR5 := Lib.hid (HR4.out.below hz HR4.out.lt)
        have HB5 := Lib.hid (HB4.out.below hz HB4.out.lt)
        have t5 := on1 t4 hz
        clear hp
        obtain ⟨b0, b1⟩ := HB5.out.duo.1
        obtain ⟨⟨o0, o1⟩, o2, o3⟩ := HR5.out.duo
        have dq : (plus w4 z).cell? ⟨w1.heap.size, 0, none⟩ = some (.int .i64 p) ∧ (plus w4 z).cell? ⟨w1.heap.size, 1, none⟩ = some (.int .i64 x) := ⟨b0, b1⟩
        have ndr : ∀ (W : World) (a : Addr), W.drew.cell? a = W.cell? a := fun _ _ => rfl
        have nf1 := fun (W : World) (i j : Nat) (u : Value) => World.cell?_setCell_far W ⟨w.heap.size + 1 + 1, i, none⟩ ⟨w1.heap.size, j, none⟩ u (by simp; omega)
        have f7 : IntKind.i64.wrap ((a11 : Int) + x) = (a11 : Int) + x := by rw [IntKind.wrap_i64]; have := Ha'.out; omega
        go_wp2_with fail
        go_region_held3 (fun w' => w'.cell? ⟨w1.heap.size, 0, none⟩ = some (.int .i64 p) ∧ w'.cell? ⟨w1.heap.size, 1, none⟩ = some (.int .i64 x)) (first | with_reducible exact dq | (simp only [ndr]; with_reducible exact dq) | (simp only [nf1]; with_reducible exact dq) | (simp only [ndr, nf1]; with_reducible exact dq)) (fail)
        go_wp2_with fail
        have FR : Blk _ (w.heap.size + 1 + 1) 50 #[.int .i64 p, .int .i64 x] := HR5.out.set2 (.int .i64 p) (.int .i64 x)
        obtain ⟨⟨v0, v1⟩, -⟩ := FR.duo
        have TF := (t5.setCell (p := ⟨w.heap.size + 1 + 1, 0, none⟩) (by simp; omega) (.int .i64 p)).setCell (p := ⟨w.heap.size + 1 + 1, 1, none⟩) (by simp; omega) (.int .i64 x)
        refine bodyPost_ret (v := .tuple #[.int .u64 d, .int .i64 ((a11 : Int) + x), .agg #[.int .i64 p, .int .i64 x], .int .u16 10]) (by simp [results, Tryd.results39, go_sem, v0, v1]) rfl ⟨⟨d, (a11 : Int) + x, p, x, 10, rfl, by rw [HD.out], fun h => by cases h⟩, TF.drew⟩
      · have k1 : ((n2 : Int) == 0) = true := by rw [h2]; rfl
        rcases hc with ⟨hh, hD⟩ | ⟨hh, hc⟩
        · have HD := Lib.hid hD
          have hH : ∀ z : More, Calls Tryd.prog 33 #[.agg #[.int .i64 L, .int .i64 X], .int .u64 d] (plus w4 z) fun e w'' => e = .returned (.bool true) ∧ ∃ x', w'' = plus w4 x' := fun z => by
            have h := holds_any L X d (plus w4 z) hLW Hsh.out
            rw [hh] at h
            exact ext_of h
          have HH := Lib.hid hH
          clear hD hH hh h2
          refine wp_region_tail_ext 10 (by kernel_rfl) (by kernel_rfl) ?_
          simp only [List.take_succ_cons, List.take_zero, List.drop_succ_cons, List.drop_zero]
          repeat (go_big_quiet_step ((go_at_call 33; exact HH.out _)))
          refine wpQuiet_nil ?_
          rintro w5 ⟨z, rfl⟩
          have hz := plus_below w4 z
          have HL5 := Lib.hid (HL4.out.below hz HL4.out.lt)
          have HR5 := Lib.hid (HR4.out.below hz HR4.out.lt)
          have HB5 := Lib.hid (HB4.out.below hz HB4.out.lt)
          have t5 := on1 t4 hz
          clear hp
          obtain ⟨b0, b1⟩ := HB5.out.duo.1
          obtain ⟨⟨o0, o1⟩, o2, o3⟩ := HR5.out.duo
          have dq : (plus w4 z).cell? ⟨w1.heap.size, 0, none⟩ = some (.int .i64 p) ∧ (plus w4 z).cell? ⟨w1.heap.size, 1, none⟩ = some (.int .i64 x) := ⟨b0, b1⟩
          have ndr : ∀ (W : World) (a : Addr), W.drew.cell? a = W.cell? a := fun _ _ => rfl
          have nf1 := fun (W : World) (i j : Nat) (u : Value) => World.cell?_setCell_far W ⟨w.heap.size + 1 + 1, i, none⟩ ⟨w1.heap.size, j, none⟩ u (by simp; omega)
          have f7 : IntKind.i64.wrap ((a11 : Int) + x) = (a11 : Int) + x := by rw [IntKind.wrap_i64]; have := Ha'.out; omega
          go_wp2_with fail
          go_region_held3 (fun w' => w'.cell? ⟨w1.heap.size, 0, none⟩ = some (.int .i64 p) ∧ w'.cell? ⟨w1.heap.size, 1, none⟩ = some (.int .i64 x)) (first | with_reducible exact dq | (simp only [ndr]; with_reducible exact dq) | (simp only [nf1]; with_reducible exact dq) | (simp only [ndr, nf1]; with_reducible exact dq)) (fail)
          go_wp2_with fail
          have FR : Blk _ (w.heap.size + 1 + 1) 50 #[.int .i64 p, .int .i64 x] := HR5.out.set2 (.int .i64 p) (.int .i64 x)
          obtain ⟨⟨v0, v1⟩, -⟩ := FR.duo
          have TF := (t5.setCell (p := ⟨w.heap.size + 1 + 1, 0, none⟩) (by simp; omega) (.int .i64 p)).setCell (p := ⟨w.heap.size + 1 + 1, 1, none⟩) (by simp; omega) (.int .i64 x)
          refine bodyPost_ret (v := .tuple #[.int .u64 d, .int .i64 ((a11 : Int) + x), .agg #[.int .i64 p, .int .i64 x], .int .u16 30]) (by simp [results, Tryd.results39, go_sem, v0, v1]) rfl ⟨⟨d, (a11 : Int) + x, p, x, 30, rfl, by rw [HD.out], fun h => by cases h⟩, TF.drew⟩
        · have hd0 : d ≠ 0 := fun e => by
            rw [e] at hh
            unfold holdsX at hh
            simp at hh
          have hH : ∀ z : More, Calls Tryd.prog 33 #[.agg #[.int .i64 L, .int .i64 X], .int .u64 d] (plus w4 z) fun e w'' => e = .returned (.bool false) ∧ ∃ x', w'' = plus w4 x' := fun z => by
            have h := holds_any L X d (plus w4 z) hLW Hsh.out
            rw [hh] at h
            exact ext_of h
          have HH := Lib.hid hH
          have hN := fun z : More => ext_of (narrow_any d (plus w4 z) hd0 Hsh.out (tabGo HT4.out (plus_below _ _)))
          have Hh2 := Lib.hid h2
          clear hH hh h2 hd0
          rcases hc with ⟨hne, hD⟩ | ⟨⟨e1, e2⟩, hD⟩
          · have HD := Lib.hid hD
            obtain ⟨n3, hn3⟩ : ∃ n3, n3 = leadX d := ⟨_, rfl⟩
            obtain ⟨n4, hn4⟩ : ∃ n4, n4 = widX d := ⟨_, rfl⟩
            rw [← hn3, ← hn4] at hN hne
            have HN := Lib.hid hN
            clear hN hD hn3 hn4
            have hx : (((n3 : Int) == (p : Int)) = true ∧ ((n4 : Int) == (x : Int)) = false) ∨ ((n3 : Int) == (p : Int)) = false := by
              by_cases h3 : n3 = p
              · exact Or.inl ⟨by rw [h3]; simp, beq_eq_false_iff_ne.2 (fun e => hne ⟨h3, by omega⟩)⟩
              · exact Or.inr (beq_eq_false_iff_ne.2 (by omega))
            clear hne
            rcases hx with ⟨m1, m2⟩ | m1
            all_goals
              refine wp_region_tail_ext 10 (by kernel_rfl) (by kernel_rfl) ?_
              simp only [List.take_succ_cons, List.take_zero, List.drop_succ_cons, List.drop_zero]
              repeat (go_big_quiet_step ((first | (go_at_call 33; exact HH.out _) | (go_at_call 34; exact HN.out _))))
              refine wpQuiet_nil ?_
              rintro w5 ⟨z, rfl⟩
              have hz := plus_below w4 z
              have HL5 := Lib.hid (HL4.out.below hz HL4.out.lt)
              have HR5 := Lib.hid (HR4.out.below hz HR4.out.lt)
              have HB5 := Lib.hid (HB4.out.below hz HB4.out.lt)
              have t5 := on1 t4 hz
              clear hp
              obtain ⟨b0, b1⟩ := HB5.out.duo.1
              obtain ⟨⟨o0, o1⟩, o2, o3⟩ := HR5.out.duo
              have dq : (plus w4 z).cell? ⟨w1.heap.size, 0, none⟩ = some (.int .i64 p) ∧ (plus w4 z).cell? ⟨w1.heap.size, 1, none⟩ = some (.int .i64 x) := ⟨b0, b1⟩
              have ndr : ∀ (W : World) (a : Addr), W.drew.cell? a = W.cell? a := fun _ _ => rfl
              have nf1 := fun (W : World) (i j : Nat) (u : Value) => World.cell?_setCell_far W ⟨w.heap.size + 1 + 1, i, none⟩ ⟨w1.heap.size, j, none⟩ u (by simp; omega)
              have f7 : IntKind.i64.wrap ((a11 : Int) + x) = (a11 : Int) + x := by rw [IntKind.wrap_i64]; have := Ha'.out; omega
              go_wp2_with fail
              go_region_held3 (fun w' => w'.cell? ⟨w1.heap.size, 0, none⟩ = some (.int .i64 p) ∧ w'.cell? ⟨w1.heap.size, 1, none⟩ = some (.int .i64 x)) (first | with_reducible exact dq | (simp only [ndr]; with_reducible exact dq) | (simp only [nf1]; with_reducible exact dq) | (simp only [ndr, nf1]; with_reducible exact dq)) (fail)
              go_wp2_with fail
              have FR : Blk _ (w.heap.size + 1 + 1) 50 #[.int .i64 p, .int .i64 x] := HR5.out.set2 (.int .i64 p) (.int .i64 x)
              obtain ⟨⟨v0, v1⟩, -⟩ := FR.duo
              have TF := (t5.setCell (p := ⟨w.heap.size + 1 + 1, 0, none⟩) (by simp; omega) (.int .i64 p)).setCell (p := ⟨w.heap.size + 1 + 1, 1, none⟩) (by simp; omega) (.int .i64 x)
              refine bodyPost_ret (v := .tuple #[.int .u64 d, .int .i64 ((a11 : Int) + x), .agg #[.int .i64 p, .int .i64 x], .int .u16 30]) (by simp [results, Tryd.results39, go_sem, v0, v1]) rfl ⟨⟨d, (a11 : Int) + x, p, x, 30, rfl, by rw [HD.out], fun h => by cases h⟩, TF.drew⟩
          · rw [e1, e2] at hN
            have HN := Lib.hid hN
            have HD := Lib.hid hD
            clear hD e1 e2 hN
            refine wp_region_tail_ext 10 (by kernel_rfl) (by kernel_rfl) ?_
            simp only [List.take_succ_cons, List.take_zero, List.drop_succ_cons, List.drop_zero]
            repeat (go_big_quiet_step ((first | (go_at_call 33; exact HH.out _) | (go_at_call 34; exact HN.out _))))
            refine wpQuiet_nil ?_
            rintro w5 ⟨z, rfl⟩
            have hz := plus_below w4 z
            have HL5 := Lib.hid (HL4.out.below hz HL4.out.lt)
            have HR5 := Lib.hid (HR4.out.below hz HR4.out.lt)
            have HB5 := Lib.hid (HB4.out.below hz HB4.out.lt)
            have t5 := on1 t4 hz
            clear hp
            obtain ⟨b0, b1⟩ := HB5.out.duo.1
            obtain ⟨⟨o0, o1⟩, o2, o3⟩ := HR5.out.duo
            have dq : (plus w4 z).cell? ⟨w1.heap.size, 0, none⟩ = some (.int .i64 p) ∧ (plus w4 z).cell? ⟨w1.heap.size, 1, none⟩ = some (.int .i64 x) := ⟨b0, b1⟩
            have ndr : ∀ (W : World) (a : Addr), W.drew.cell? a = W.cell? a := fun _ _ => rfl
            have nf1 := fun (W : World) (i j : Nat) (u : Value) => World.cell?_setCell_far W ⟨w.heap.size + 1 + 1, i, none⟩ ⟨w1.heap.size, j, none⟩ u (by simp; omega)
            have f7 : IntKind.i64.wrap ((a11 : Int) + x) = (a11 : Int) + x := by rw [IntKind.wrap_i64]; have := Ha'.out; omega
            go_wp2_with fail
            go_region_held3 (fun w' => w'.cell? ⟨w1.heap.size, 0, none⟩ = some (.int .i64 p) ∧ w'.cell? ⟨w1.heap.size, 1, none⟩ = some (.int .i64 x)) (first | with_reducible exact dq | (simp only [ndr]; with_reducible exact dq) | (simp only [nf1]; with_reducible exact dq) | (simp only [ndr, nf1]; with_reducible exact dq)) (fail)
            go_wp2_with fail
            have FR : Blk _ (w.heap.size + 1 + 1) 50 #[.int .i64 p, .int .i64 x] := HR5.out.set2 (.int .i64 p) (.int .i64 x)
            obtain ⟨⟨v0, v1⟩, -⟩ := FR.duo
            have TF := (t5.setCell (p := ⟨w.heap.size + 1 + 1, 0, none⟩) (by simp; omega) (.int .i64 p)).setCell (p := ⟨w.heap.size + 1 + 1, 1, none⟩) (by simp; omega) (.int .i64 x)
            refine bodyPost_ret (v := .tuple #[.int .u64 d, .int .i64 ((a11 : Int) + x), .agg #[.int .i64 p, .int .i64 x], .int .u16 n2]) (by simp [results, Tryd.results39, go_sem, v0, v1]) rfl ⟨⟨d, (a11 : Int) + x, p, x, n2, rfl, by rw [HD.out]; exact Hh2.out, fun _ => by rw [HD.out]; exact ⟨rfl, by have := Ha'.out; simp only; omega, rfl, rfl⟩⟩, TF.drew⟩

end Go.Proofs.YtfooggamdbdniaaDoor

/- Plain mathematics: the document's decoding of layer 3 (read a value, write it, compare) gives what the program's gives. -/
namespace Go.Proofs.YtfooggamdbdniaaDoor

/-- the value that bits would be, as the document reads it: it, how many bits, the error -/
def valX (s : XV) (r : List Bool) : Nat × Nat × Nat :=
  if s.has = false then (if r.length < 64 then (0, 0, 10) else (numB (r.take 64), 64, 0))
  else match r with
  | [] => (0, 0, 10)
  | false :: _ => (s.prev, 1, 0)
  | [true] => (0, 0, 10)
  | true :: false :: r => if r.length < s.width then (0, 0, 10) else (numB (r.take s.width) * 2 ^ (64 - s.lead - s.width) ^^^ s.prev, 2 + s.width, 0)
  | true :: true :: r =>
    if r.length < 11 then (0, 0, 10)
    else if 64 < numB (r.take 5) + (numB ((r.drop 5).take 6) + 1) then (0, 0, 30)
    else if r.length < 11 + (numB ((r.drop 5).take 6) + 1) then (0, 0, 10)
    else (numB ((r.drop 11).take (numB ((r.drop 5).take 6) + 1)) * 2 ^ (64 - numB (r.take 5) - (numB ((r.drop 5).take 6) + 1)) ^^^ s.prev, 13 + (numB ((r.drop 5).take 6) + 1), 0)

theorem xor_lt' {a b : Nat} (ha : a < 18446744073709551616) (hb : b < 18446744073709551616) : a ^^^ b < 18446744073709551616 := Nat.xor_lt_two_pow (n := 64) ha hb

theorem val_cases {s : XV} (hs : soundX s = true) (hp : s.prev < 18446744073709551616) (r : List Bool) :
    ((decX s r).2.2.2 = 0 ∧ valX s r = ((decX s r).1, (decX s r).2.1, 0)) ∨
    ((decX s r).2.2.2 ≠ 0 ∧ decX s r = (0, 0, xv0, (decX s r).2.2.2) ∧ ((valX s r).2.2 = (decX s r).2.2.2 ∨ ((valX s r).2.2 = 0 ∧ (decX s r).2.2.2 = 30 ∧ (valX s r).1 < 18446744073709551616))) := by
  unfold decX valX
  by_cases hh : s.has = false
  · rw [if_pos hh, if_pos hh]
    by_cases h1 : r.length < 64
    · simp [h1]
    · simp [h1]
  · rw [if_neg hh, if_neg hh]
    have hlw : s.lead + s.width ≤ 64 := by
      unfold soundX at hs
      simp at hh
      rw [hh] at hs
      simp at hs
      omega
    rcases r with _ | ⟨_ | _, r⟩
    · simp
    · simp
    · rcases r with _ | ⟨_ | _, r⟩
      · simp
      · dsimp only
        by_cases h1 : r.length < s.width
        · simp [h1]
        · by_cases h2 : numB (r.take s.width) = 0
          · refine Or.inr ?_
            simp only [h1, h2, ↓reduceIte]
            refine ⟨by decide, trivial, Or.inr ⟨trivial, trivial, ?_⟩⟩
            simpa using hp
          · simp [h1, h2]
      · dsimp only
        by_cases h1 : r.length < 11
        · simp [h1]
        · have b5 := numB_lt (r.take 5)
          simp only [h1, ↓reduceIte]
          generalize numB (r.take 5) = L at *
          generalize numB ((r.drop 5).take 6) = X at *
          by_cases h2 : 64 < L + (X + 1)
          · simp [h2]
          · simp only [h2, ↓reduceIte]
            by_cases h3 : r.length < 11 + (X + 1)
            · simp [h3]
            · simp only [h3, ↓reduceIte]
              have hl := numB_lt ((r.drop 11).take (X + 1))
              rw [List.length_take, List.length_drop, Nat.min_eq_left (by omega)] at hl
              have hd := shl_lt (L := L) hl (by omega)
              generalize numB ((r.drop 11).take (X + 1)) * 2 ^ (64 - L - (X + 1)) = d at *
              by_cases h4 : holdsX s.lead s.width d = true ∨ ¬ (leadX d = L ∧ widX d = X + 1)
              · rw [if_pos h4]
                exact Or.inr ⟨by decide, by trivial, Or.inr ⟨by trivial, by trivial, xor_lt' hd hp⟩⟩
              · rw [if_neg h4]
                exact Or.inl ⟨rfl, rfl⟩

/-- read, written, compared -/
theorem dec_val {s : XV} (hs : soundX s = true) (hp : s.prev < 18446744073709551616) (r : List Bool) :
    decX s r = if (valX s r).2.2 ≠ 0 then (0, 0, xv0, (valX s r).2.2) else if (encX s (valX s r).1).1 = r.take (valX s r).2.1 then ((valX s r).1, (valX s r).2.1, (encX s (valX s r).1).2, 0) else (0, 0, xv0, 30) := by
  rcases val_cases hs hp r with ⟨h1, h2⟩ | ⟨h1, h2, h3⟩
  · obtain ⟨v, n, t, c, hd⟩ : ∃ v n t c, decX s r = (v, n, t, c) := ⟨_, _, _, _, rfl⟩
    rw [hd] at h1 h2 ⊢
    simp only at h1 h2
    subst h1
    obtain ⟨-, h4, -⟩ := dec_only hs hp hd
    rw [h2]
    simp only [ne_eq, not_true, ↓reduceIte]
    rw [h4, if_pos rfl]
  · rcases h3 with h3 | ⟨h3, h4, h5⟩
    · rw [if_pos (by rw [h3]; exact h1), h3]
      exact h2
    · rw [if_neg (by simp [h3]), if_neg ?_, h2, h4]
      intro e
      have hd := dec_enc (s := s) hs hp h5 (r.drop (valX s r).2.1)
      rw [e, List.take_append_drop] at hd
      rw [hd] at h1
      exact h1 rfl

/-- one bit read -/
theorem get_bit {l : List UInt8} {m a : Nat} (hs : soundB l (m : Int) = true) (ha : a ≤ m) :
    ((bitl l m).drop a = [] ∧ m = a ∧ getSpec l (m : Int) (a : Int) 1 = (0, 10)) ∨
    (∃ (b : Bool) (r : List Bool), (bitl l m).drop a = b :: r ∧ a + 1 ≤ m ∧ (bitl l m).drop (a + 1) = r ∧ getSpec l (m : Int) (a : Int) 1 = (b2n b, 0)) := by
  have h0 := get_front (d := 1) hs ha (by omega)
  rw [show ((1 : Nat) : Int) = 1 from rfl] at h0
  have hlen : ((bitl l m).drop a).length = m - a := by rw [List.length_drop, bitl_length]
  have hdr : (bitl l m).drop (a + 1) = ((bitl l m).drop a).drop 1 := by rw [List.drop_drop]
  rw [hdr, h0]
  cases h : (bitl l m).drop a with
  | nil =>
    rw [h] at hlen
    simp only [List.length_nil] at hlen
    exact Or.inl ⟨rfl, by omega, by simp⟩
  | cons b r =>
    rw [h] at hlen
    simp only [List.length_cons] at hlen
    refine Or.inr ⟨b, r, rfl, by omega, rfl, ?_⟩
    rw [if_neg (by simp)]
    simp only [List.take_succ_cons, List.take_zero]
    have : numB [b] = b2n b := by
      have := numB_snoc [] b
      rw [numB_nil] at this
      simpa using this
    rw [this]

end Go.Proofs.YtfooggamdbdniaaDoor

/- Layer 3's decoding step of the program. -/
namespace Go.Proofs.YtfooggamdbdniaaDoor
open Go.RowKit

/-- decoding at any place -/
def decI (s : XV) (l : List UInt8) (m : Nat) (at_ : Int) : Nat × Nat × Nat × Nat × Nat := if at_ < 0 ∨ (m : Int) < at_ then (0, 0, 0, 0, 10) else decD s ((bitl l m).drop at_.toNat)

/-- what a step of the decoding answers, wherever -/
def DecOut2 (D : Nat × Nat × Nat × Nat × Nat) (a : Int) (e : Ending) : Prop :=
  ∃ (d : Nat) (nx : Int) (bl bw c : Nat), e = .returned (.tuple #[.int .u64 d, .int .i64 nx, .agg #[.int .i64 bl, .int .i64 bw], .int .u16 c]) ∧ c = D.2.2.2.2 ∧
    (c = 0 → d = D.1 ∧ nx = a + (D.2.1 : Int) ∧ bl = D.2.2.1 ∧ bw = D.2.2.2.1)

theorem dec_facts (s : XV) {l : List UInt8} {m : Nat} {at_ : Int} (hs : soundB l (m : Int) = true) :
    (s.has = false ∧ ∃ g1 g2 : Nat, getSpec l (m : Int) at_ 64 = (g1, g2) ∧ ((g2 = 10 ∧ (decI s l m at_).2.2.2.2 = 10) ∨ (g2 = 0 ∧ 0 ≤ at_ ∧ at_ + 64 ≤ m ∧ decI s l m at_ = (g1, 64, 0, 0, 0)))) ∨
    (s.has = true ∧ ∃ g1 g2 : Nat, getSpec l (m : Int) at_ 1 = (g1, g2) ∧
      ((g2 = 10 ∧ (decI s l m at_).2.2.2.2 = 10) ∨ (g2 = 0 ∧ g1 = 0 ∧ 0 ≤ at_ ∧ at_ + 1 ≤ m ∧ decI s l m at_ = (0, 1, s.lead, s.width, 0)) ∨
       (g2 = 0 ∧ g1 = 1 ∧ ∃ a : Nat, at_ = a ∧ a + 1 ≤ m ∧ ∃ k1 k2 : Nat, getSpec l (m : Int) ((a + 1 : Nat) : Int) 1 = (k1, k2) ∧
          ((k2 = 10 ∧ (decI s l m at_).2.2.2.2 = 10) ∨
           (k2 = 0 ∧ k1 = 0 ∧ a + 2 ≤ m ∧ decI s l m at_ = ((oldD s.lead s.width ((bitl l m).drop (a + 2))).1, 2 + (oldD s.lead s.width ((bitl l m).drop (a + 2))).2.1, (oldD s.lead s.width ((bitl l m).drop (a + 2))).2.2)) ∨
           (k2 = 0 ∧ k1 = 1 ∧ a + 2 ≤ m ∧ decI s l m at_ = ((newD s.lead s.width ((bitl l m).drop (a + 2))).1, 2 + (newD s.lead s.width ((bitl l m).drop (a + 2))).2.1, (newD s.lead s.width ((bitl l m).drop (a + 2))).2.2)))))) := by
  by_cases ho : at_ < 0 ∨ (m : Int) < at_
  · have hD : decI s l m at_ = (0, 0, 0, 0, 10) := if_pos ho
    cases hh : s.has
    · exact Or.inl ⟨rfl, 0, 10, get_out hs ho (by omega), Or.inl ⟨rfl, by rw [hD]⟩⟩
    · exact Or.inr ⟨rfl, 0, 10, get_out hs ho (by omega), Or.inl ⟨rfl, by rw [hD]⟩⟩
  · obtain ⟨a, rfl⟩ : ∃ a : Nat, at_ = a := ⟨at_.toNat, by omega⟩
    have ham : a ≤ m := by omega
    have hD : decI s l m (a : Int) = decD s ((bitl l m).drop a) := by
      unfold decI
      rw [if_neg ho, Int.toNat_natCast]
    rw [hD]
    have hlen : ((bitl l m).drop a).length = m - a := by rw [List.length_drop, bitl_length]
    cases hh : s.has
    · refine Or.inl ⟨rfl, ?_⟩
      have h0 := get_front (d := 64) hs ham (by omega)
      rw [show ((64 : Nat) : Int) = 64 from rfl] at h0
      rw [h0]
      unfold decD
      rw [if_pos hh]
      by_cases h1 : ((bitl l m).drop a).length < 64
      · rw [if_pos h1, if_pos h1]
        exact ⟨0, 10, rfl, Or.inl ⟨rfl, rfl⟩⟩
      · rw [if_neg h1, if_neg h1]
        exact ⟨_, 0, rfl, Or.inr ⟨rfl, by omega, by omega, rfl⟩⟩
    · refine Or.inr ⟨rfl, ?_⟩
      have hne : ¬ s.has = false := by rw [hh]; decide
      rcases get_bit hs ham with ⟨hr, hma, hg⟩ | ⟨b, r, hr, hma, hr1, hg⟩
      · rw [hg, hr]
        exact ⟨0, 10, rfl, Or.inl ⟨rfl, by unfold decD; rw [if_neg hne]⟩⟩
      · rw [hg, hr]
        cases b
        · exact ⟨0, 0, rfl, Or.inr (Or.inl ⟨rfl, rfl, by omega, by omega, by unfold decD; rw [if_neg hne]⟩)⟩
        · refine ⟨1, 0, rfl, Or.inr (Or.inr ⟨rfl, rfl, a, rfl, hma, ?_⟩)⟩
          rcases get_bit (a := a + 1) hs hma with ⟨hr2, hma2, hg2⟩ | ⟨b2, r2, hr2, hma2, hr3, hg2⟩
          · rw [hg2]
            rw [hr1] at hr2
            rw [hr2]
            exact ⟨0, 10, rfl, Or.inl ⟨rfl, by unfold decD; rw [if_neg hne]⟩⟩
          · rw [hg2]
            rw [hr1] at hr2
            rw [hr2]
            rw [show a + 2 = a + 1 + 1 from rfl, hr3]
            cases b2
            · exact ⟨0, 0, rfl, Or.inr (Or.inl ⟨rfl, rfl, hma2, by unfold decD; rw [if_neg hne]⟩)⟩
            · exact ⟨1, 0, rfl, Or.inr (Or.inr ⟨rfl, rfl, hma2, by unfold decD; rw [if_neg hne]⟩)⟩

set_option maxRecDepth 100000 in
set_option maxHeartbeats 1000000 in
theorem decode_any (A : Option Addr) (c : Nat) (l : List UInt8) (m : Nat) (at_ : Int) (h : Bool) (p L X : Nat) (w : World) (hb : Bs w A l) (hs : soundB l (m : Int) = true) (hl : l.length ≤ 100000) (ha : -9223372036854775808 ≤ at_ ∧ at_ ≤ 9223372036854775807) (hm : m ≤ 800000) (hx : soundX ⟨h, p, L, X⟩ = true) (hT : Tab w) :
    Calls Tryd.prog 27 #[.agg #[.slice A l.length c, .int .i64 m], .int .i64 at_, .agg #[.bool h, .int .u64 p, .int .u8 L, .int .u8 X]] w fun e w' => DecOut2 (decI ⟨h, p, L, X⟩ l m at_) at_ e ∧ Below w.heap.size w w' := by
  have hmx : Tryd.prog.follows .mixedOrders = true := by kernel_rfl
  have hf := dec_facts ⟨h, p, L, X⟩ (at_ := at_) hs
  have hLX : L + X ≤ 64 := by
    unfold soundX at hx
    cases h <;> simp at hx <;> omega
  obtain ⟨D, hD⟩ : ∃ D, D = decI ⟨h, p, L, X⟩ l m at_ := ⟨_, rfl⟩
  rw [← hD] at hf ⊢
  clear hD hx
  obtain ⟨d0, d1, d2, t0, z0⟩ := three_at w #[.slice A l.length c, .int .i64 m] #[.bool h, .int .u64 p, .int .u8 L, .int .u8 X] #[.int .i64 0, .int .i64 0] 29 24 50
  obtain ⟨aw, haw⟩ : ∃ aw, aw = IntKind.i64.wrap (at_ + 64) := ⟨_, rfl⟩
  obtain ⟨a1, ha1⟩ : ∃ aw, aw = IntKind.i64.wrap (at_ + 1) := ⟨_, rfl⟩
  have HAW := Lib.hid haw
  have HA1 := Lib.hid ha1
  have HT := Lib.hid (tabGo hT t0)
  rcases hf with ⟨hh, g1, g2, hG, hc⟩ | ⟨hh, g1, g2, hG, hc⟩
  · subst hh
    go_enter Tryd.func27, Tryd.ntmps27
    go_wp2_with fail
    generalize (((w.alloc (.cells #[.slice A l.length c, .int .i64 m] 29)).alloc (.cells #[.bool false, .int .u64 p, .int .u8 L, .int .u8 X] 24)).alloc (.cells #[.int .i64 0, .int .i64 0] 50)) = W0 at *
    have hb0 := hb.below t0
    have HD0 := Lib.hid d0
    have HD1 := Lib.hid d1
    have HD2 := Lib.hid d2
    have Ht0 := Lib.hid t0
    have HB0 := Lib.hid hb0
    have haw2 : IntKind.i64.wrap (at_ + 64) = aw := haw.symm
    have ha12 : IntKind.i64.wrap (at_ + 1) = a1 := ha1.symm
    clear hT haw ha1 hb
    have hg := get_any A c l m at_ 64 W0 hb0 (by omega) (by omega) (by omega) (by omega)
    rw [hG] at hg
    have HG := Lib.hid hg
    have HC := Lib.hid hc
    clear hg hG hc hb0
    obtain ⟨⟨q0, q1, q2, q3⟩, -⟩ := HD1.out.quad
    obtain ⟨⟨u0, u1⟩, -⟩ := HD0.out.duo
    clear d0 d1 d2 t0
    go_wp2_with fail
    refine HG.out.mono ?_
    rintro e w1 ⟨rfl, b1⟩
    have R1 := Lib.hid (HD2.out.below b1 HD2.out.lt)
    obtain ⟨⟨r0, r1⟩, r2, r3⟩ := R1.out.duo
    have t1 := on1 Ht0.out b1
    have z1 := R1.out.lt
    clear b1 HG
    go_wp2_with fail
    have FR : Blk _ (w.heap.size + 1 + 1) 50 #[.int .i64 0, .int .i64 0] := R1.out.set2 (.int .i64 0) (.int .i64 0)
    obtain ⟨⟨v0, v1⟩, -⟩ := FR.duo
    have TF := (t1.setCell (p := ⟨w.heap.size + 1 + 1, 0, none⟩) (by simp; omega) (.int .i64 0)).setCell (p := ⟨w.heap.size + 1 + 1, 1, none⟩) (by simp; omega) (.int .i64 0)
    refine bodyPost_ret (v := .tuple #[.int .u64 g1, .int .i64 aw, .agg #[.int .i64 0, .int .i64 0], .int .u16 g2]) (by simp [results, Tryd.results27, go_sem, v0, v1]) rfl ⟨⟨g1, aw, 0, 0, g2, rfl, ?_, ?_⟩, TF⟩
    · rcases HC.out with ⟨h1, h2⟩ | ⟨h1, h2, h3, h4⟩
      · rw [h1, h2]
      · rw [h1, h4]
    · rcases HC.out with ⟨h1, h2⟩ | ⟨h1, h2, h3, h4⟩
      · intro h; omega
      · intro _
        rw [h4]
        refine ⟨rfl, ?_, rfl, rfl⟩
        rw [HAW.out, IntKind.wrap_i64]
        simp only
        omega
  · subst hh
    go_enter Tryd.func27, Tryd.ntmps27
    go_wp2_with fail
    generalize (((w.alloc (.cells #[.slice A l.length c, .int .i64 m] 29)).alloc (.cells #[.bool true, .int .u64 p, .int .u8 L, .int .u8 X] 24)).alloc (.cells #[.int .i64 0, .int .i64 0] 50)) = W0 at *
    have hb0 := hb.below t0
    have HD0 := Lib.hid d0
    have HD1 := Lib.hid d1
    have HD2 := Lib.hid d2
    have Ht0 := Lib.hid t0
    have HB0 := Lib.hid hb0
    have haw2 : IntKind.i64.wrap (at_ + 64) = aw := haw.symm
    have ha12 : IntKind.i64.wrap (at_ + 1) = a1 := ha1.symm
    clear hT haw ha1 hb
    have hg := get_any A c l m at_ 1 W0 hb0 (by omega) (by omega) (by omega) (by omega)
    rw [hG] at hg
    have HG := Lib.hid hg
    have HC := Lib.hid hc
    clear hg hG hc hb0
    obtain ⟨⟨q0, q1, q2, q3⟩, -⟩ := HD1.out.quad
    obtain ⟨⟨u0, u1⟩, -⟩ := HD0.out.duo
    clear d0 d1 d2 t0
    go_wp2_with fail
    refine HG.out.mono ?_
    rintro e w1 ⟨rfl, b1⟩
    have E1 := Lib.hid (HD0.out.below b1 HD0.out.lt)
    have S1 := Lib.hid (HD1.out.below b1 HD1.out.lt)
    have R1 := Lib.hid (HD2.out.below b1 HD2.out.lt)
    have HT1 := Lib.hid (tabGo HT.out b1)
    have hb1 := Lib.hid (HB0.out.below b1)
    have t1 := on1 Ht0.out b1
    have z1 := R1.out.lt
    clear b1 HG q0 q1 q2 q3 u0 u1 HD0 HD1 HD2 HT HB0
    obtain ⟨⟨q0, q1, q2, q3⟩, -⟩ := S1.out.quad
    obtain ⟨⟨u0, u1⟩, -⟩ := E1.out.duo
    obtain ⟨⟨r0, r1⟩, r2, r3⟩ := R1.out.duo
    have hcc : ((((g2 : Int) == 0) = false ∨ (g2 = 0 ∧ g1 = 0)) ∧ g2 = D.2.2.2.2 ∧ (g2 = 0 → D = (0, 1, L, X, 0) ∧ a1 = at_ + 1)) ∨
       (g2 = 0 ∧ g1 = 1 ∧ ∃ a : Nat, at_ = a ∧ a + 1 ≤ m ∧ ∃ k1 k2 : Nat, getSpec l (m : Int) ((a + 1 : Nat) : Int) 1 = (k1, k2) ∧
          ((k2 = 10 ∧ D.2.2.2.2 = 10) ∨
           (k2 = 0 ∧ k1 = 0 ∧ a + 2 ≤ m ∧ D = ((oldD L X ((bitl l m).drop (a + 2))).1, 2 + (oldD L X ((bitl l m).drop (a + 2))).2.1, (oldD L X ((bitl l m).drop (a + 2))).2.2)) ∨
           (k2 = 0 ∧ k1 = 1 ∧ a + 2 ≤ m ∧ D = ((newD L X ((bitl l m).drop (a + 2))).1, 2 + (newD L X ((bitl l m).drop (a + 2))).2.1, (newD L X ((bitl l m).drop (a + 2))).2.2)))) := by
      rcases HC.out with ⟨h1, h2⟩ | ⟨h1, h2, h3, h4, h5⟩ | h
      · exact Or.inl ⟨Or.inl (beq_eq_false_iff_ne.2 (by omega)), by rw [h1, h2], fun h => by omega⟩
      · refine Or.inl ⟨Or.inr ⟨h1, h2⟩, by rw [h1, h5], fun _ => ⟨h5, ?_⟩⟩
        rw [HA1.out, IntKind.wrap_i64]
        omega
      · exact Or.inr h
    clear HC
    rcases hcc with ⟨hk, hc2, hc3⟩ | ⟨rfl, rfl, a, rfl, ham, k1, k2, hG, hc⟩
    · have HK2 := Lib.hid hc2
      have HK3 := Lib.hid hc3
      clear hc2 hc3
      rcases hk with hk | ⟨rfl, rfl⟩
      · skip
        go_wp2_with fail
        refine (bandOf_any true p L X w1 (by omega) (by omega)).mono ?_
        rintro e w2 ⟨rfl, b2⟩
        have R2 := Lib.hid (R1.out.below b2 R1.out.lt)
        have t2 := on1 t1 b2
        have z2 := R2.out.lt
        clear r0 r1 r2 r3 b2
        obtain ⟨⟨r0, r1⟩, r2, r3⟩ := R2.out.duo
        go_wp2_with fail
        have FR : Blk _ (w.heap.size + 1 + 1) 50 #[.int .i64 L, .int .i64 X] := R2.out.set2 (.int .i64 L) (.int .i64 X)
        obtain ⟨⟨v0, v1⟩, -⟩ := FR.duo
        have TF := (t2.setCell (p := ⟨w.heap.size + 1 + 1, 0, none⟩) (by simp; omega) (.int .i64 L)).setCell (p := ⟨w.heap.size + 1 + 1, 1, none⟩) (by simp; omega) (.int .i64 X)
        refine bodyPost_ret (v := .tuple #[.int .u64 0, .int .i64 a1, .agg #[.int .i64 L, .int .i64 X], .int .u16 g2]) (by simp [results, Tryd.results27, go_sem, v0, v1]) rfl ⟨⟨0, a1, L, X, g2, rfl, HK2.out, ?_⟩, TF⟩
        intro h
        obtain ⟨h1, h2⟩ := HK3.out h
        rw [h1, h2]
        exact ⟨rfl, rfl, rfl, rfl⟩
      · skip
        go_wp2_with fail
        refine (bandOf_any true p L X w1 (by omega) (by omega)).mono ?_
        rintro e w2 ⟨rfl, b2⟩
        have R2 := Lib.hid (R1.out.below b2 R1.out.lt)
        have t2 := on1 t1 b2
        have z2 := R2.out.lt
        clear r0 r1 r2 r3 b2
        obtain ⟨⟨r0, r1⟩, r2, r3⟩ := R2.out.duo
        go_wp2_with fail
        have FR : Blk _ (w.heap.size + 1 + 1) 50 #[.int .i64 L, .int .i64 X] := R2.out.set2 (.int .i64 L) (.int .i64 X)
        obtain ⟨⟨v0, v1⟩, -⟩ := FR.duo
        have TF := (t2.setCell (p := ⟨w.heap.size + 1 + 1, 0, none⟩) (by simp; omega) (.int .i64 L)).setCell (p := ⟨w.heap.size + 1 + 1, 1, none⟩) (by simp; omega) (.int .i64 X)
        refine bodyPost_ret (v := .tuple #[.int .u64 0, .int .i64 a1, .agg #[.int .i64 L, .int .i64 X], .int .u16 0]) (by simp [results, Tryd.results27, go_sem, v0, v1]) rfl ⟨⟨0, a1, L, X, 0, rfl, HK2.out, ?_⟩, TF⟩
        intro h
        obtain ⟨h1, h2⟩ := HK3.out (by first | exact h | trivial)
        rw [h1, h2]
        exact ⟨rfl, rfl, rfl, rfl⟩
    · have hw1 : IntKind.i64.wrap ((a : Int) + 1) = ((a + 1 : Nat) : Int) := by rw [IntKind.wrap_i64]; omega
      have hw2 : IntKind.i64.wrap ((a : Int) + 2) = ((a + 2 : Nat) : Int) := by rw [IntKind.wrap_i64]; omega
      have hg := get_any A c l m ((a + 1 : Nat) : Int) 1 w1 hb1.out (by omega) (by omega) (by omega) (by omega)
      rw [hG] at hg
      have HG := Lib.hid hg
      have HC := Lib.hid hc
      clear hg hG hc
      obtain ⟨a1n, ha1n⟩ : ∃ a1n, a1n = a + 1 := ⟨_, rfl⟩
      obtain ⟨a2n, ha2n⟩ : ∃ a2n, a2n = a + 2 := ⟨_, rfl⟩
      rw [← ha1n] at hw1 HG
      rw [← ha2n] at hw2 HC
      have H2n := Lib.hid ha2n
      clear ha1n ha2n HA1 HAW haw2 ha12
      go_wp2_with fail
      refine HG.out.mono ?_
      rintro e w2 ⟨rfl, b2⟩
      have E2 := Lib.hid (E1.out.below b2 E1.out.lt)
      have S2 := Lib.hid (S1.out.below b2 S1.out.lt)
      have R2 := Lib.hid (R1.out.below b2 R1.out.lt)
      have HT2 := Lib.hid (tabGo HT1.out b2)
      have hb2 := Lib.hid (hb1.out.below b2)
      have t2 := on1 t1 b2
      have z2 := R2.out.lt
      clear b2 HG q0 q1 q2 q3 u0 u1 r0 r1 r2 r3 E1 S1 R1 HT1 hb1
      obtain ⟨⟨q0, q1, q2, q3⟩, -⟩ := S2.out.quad
      obtain ⟨⟨u0, u1⟩, -⟩ := E2.out.duo
      obtain ⟨⟨r0, r1⟩, r2, r3⟩ := R2.out.duo
      rcases HC.out with ⟨rfl, h2⟩ | ⟨rfl, rfl, ha2, hd⟩ | ⟨rfl, rfl, ha2, hd⟩
      · have H2 := Lib.hid h2
        clear h2 HC
        go_wp2_with fail
        have FR : Blk _ (w.heap.size + 1 + 1) 50 #[.int .i64 0, .int .i64 0] := R2.out.set2 (.int .i64 0) (.int .i64 0)
        obtain ⟨⟨v0, v1⟩, -⟩ := FR.duo
        have TF := (t2.setCell (p := ⟨w.heap.size + 1 + 1, 0, none⟩) (by simp; omega) (.int .i64 0)).setCell (p := ⟨w.heap.size + 1 + 1, 1, none⟩) (by simp; omega) (.int .i64 0)
        refine bodyPost_ret (v := .tuple #[.int .u64 0, .int .i64 0, .agg #[.int .i64 0, .int .i64 0], .int .u16 10]) (by simp [results, Tryd.results27, go_sem, v0, v1]) rfl ⟨⟨0, 0, 0, 0, 10, rfl, H2.out.symm, fun h => by cases h⟩, TF⟩
      · have H2 := Lib.hid hd
        have H3 := Lib.hid ha2
        clear hd ha2 HC
        have hq : ∀ x, ((plus w2 x).cell? ⟨w.heap.size, 0, none⟩ = some (.slice A l.length c) ∧ (plus w2 x).cell? ⟨w.heap.size, 1, none⟩ = some (.int .i64 m)) := fun x => box1 (plus_below w2 x) ⟨u0, u1⟩
        have hv : ∀ x, (plus w2 x).cell? ⟨w.heap.size + 1, 0, none⟩ = some (.bool true) ∧ (plus w2 x).cell? ⟨w.heap.size + 1, 1, none⟩ = some (.int .u64 p) ∧ (plus w2 x).cell? ⟨w.heap.size + 1, 2, none⟩ = some (.int .u8 L) ∧ (plus w2 x).cell? ⟨w.heap.size + 1, 3, none⟩ = some (.int .u8 X) := fun x =>
          ((S2.out.below (plus_below w2 x) S2.out.lt : Blk (plus w2 x) (w.heap.size + 1) 24 #[.bool true, .int .u64 p, .int .u8 L, .int .u8 X])).quad.1
        go_wp2_with fail
        refine wp_region_fresh_tail 10 [] [4, 5] (fun k V z => if k = 4 then V = .agg #[.int .i64 L, .int .i64 X] else ∃ (d : Nat) (nx : Int) (bl bw c : Nat), V = .tuple #[.int .u64 d, .int .i64 nx, .agg #[.int .i64 bl, .int .i64 bw], .int .u16 c] ∧ DecOut (oldD L X ((bitl l m).drop a2n)) a2n (.returned V)) hmx (by kernel_rfl) (by kernel_rfl) ?_
        simp only [List.take_succ_cons, List.take_zero, List.drop_succ_cons, List.drop_zero]
        iterate 4 (refine walkF_one none w2 rfl (by kernel_rfl) ?_; go_big_quiet_step (fail); refine wpQuiet_nil ?_)
        refine walkF_make none w2 rfl rfl rfl (by kernel_rfl) (fun x => ?_) ?_
        · refine grow_call ?_ ((bandOf_any true p L X (plus w2 x) (by omega) (by omega)).mono ?_)
          · simp [execOp, go_sem]
          · rintro e w4 ⟨rfl, b4⟩
            exact ⟨_, rfl, b4, rfl⟩
        rintro V1 z1 rfl g1
        conv => arg 11; simp [Act.put]
        refine walkF_make none w2 rfl rfl rfl (by kernel_rfl) (fun x => ?_) ?_
        · refine grow_call ?_ ((decodeOld_any A c l m a2n L X (plus w2 x) (hb2.out.below (plus_below _ _)) hs hl (by have := H3.out; have := H2n.out; omega) hm hLX).mono ?_)
          · simp [execOp, go_sem]
          · rintro e w4 ⟨hO, b4⟩
            obtain ⟨d, nx, bl, bw, c, rfl, hh⟩ := hO
            exact ⟨_, rfl, b4, d, nx, bl, bw, c, rfl, d, nx, bl, bw, c, rfl, hh⟩
        rintro V2 z2 ⟨d, nx, bl, bw, c, rfl, hO⟩ g2
        have HO := Lib.hid hO
        clear hO
        conv => arg 11; simp [Act.put]
        iterate 4 (refine walkF_one none w2 rfl (by kernel_rfl) ?_; go_big_quiet_step (fail); refine wpQuiet_nil ?_)
        refine walkF_end ?_
        intro w' h0 hE
        have fR := R2.out.below h0 R2.out.lt
        obtain ⟨⟨r0, r1⟩, r2, r3⟩ := fR.duo
        have t3 := on1 t2 h0
        have z3 := fR.lt
        have FR : Blk _ (w.heap.size + 1 + 1) 50 #[.int .i64 bl, .int .i64 bw] := fR.set2 (.int .i64 bl) (.int .i64 bw)
        obtain ⟨⟨v0, v1⟩, -⟩ := FR.duo
        have TF := (t3.setCell (p := ⟨w.heap.size + 1 + 1, 0, none⟩) (by simp; omega) (.int .i64 bl)).setCell (p := ⟨w.heap.size + 1 + 1, 1, none⟩) (by simp; omega) (.int .i64 bw)
        clear hE
        go_wp2_with fail
        refine bodyPost_ret (v := .tuple #[.int .u64 d, .int .i64 nx, .agg #[.int .i64 bl, .int .i64 bw], .int .u16 c]) (by simp [results, Tryd.results27, go_sem, v0, v1]) rfl ⟨⟨d, nx, bl, bw, c, rfl, ?_⟩, TF⟩
        obtain ⟨d', nx', bl', bw', c', he, hc, hh⟩ := HO.out
        simp only [Ending.returned.injEq, Value.tuple.injEq, Array.mk.injEq, List.cons.injEq, Value.int.injEq, Value.agg.injEq, true_and, and_true, Int.ofNat_inj, Int.natCast_inj] at he
        obtain ⟨rfl, rfl, ⟨rfl, rfl⟩, rfl⟩ := he
        rw [H2.out]
        refine ⟨hc, fun h => ?_⟩
        obtain ⟨e1, e2, e3, e4⟩ := hh h
        exact ⟨e1, by rw [e2, H2n.out]; simp; omega, e3, e4⟩
      · have H2 := Lib.hid hd
        have H3 := Lib.hid ha2
        clear hd ha2 HC
        have hq : ∀ x, ((plus w2 x).cell? ⟨w.heap.size, 0, none⟩ = some (.slice A l.length c) ∧ (plus w2 x).cell? ⟨w.heap.size, 1, none⟩ = some (.int .i64 m)) := fun x => box1 (plus_below w2 x) ⟨u0, u1⟩
        have hv : ∀ x, (plus w2 x).cell? ⟨w.heap.size + 1, 0, none⟩ = some (.bool true) ∧ (plus w2 x).cell? ⟨w.heap.size + 1, 1, none⟩ = some (.int .u64 p) ∧ (plus w2 x).cell? ⟨w.heap.size + 1, 2, none⟩ = some (.int .u8 L) ∧ (plus w2 x).cell? ⟨w.heap.size + 1, 3, none⟩ = some (.int .u8 X) := fun x =>
          ((S2.out.below (plus_below w2 x) S2.out.lt : Blk (plus w2 x) (w.heap.size + 1) 24 #[.bool true, .int .u64 p, .int .u8 L, .int .u8 X])).quad.1
        go_wp2_with fail
        refine wp_region_fresh_tail 10 [] [4, 5] (fun k V z => if k = 4 then V = .agg #[.int .i64 L, .int .i64 X] else ∃ (d : Nat) (nx : Int) (bl bw c : Nat), V = .tuple #[.int .u64 d, .int .i64 nx, .agg #[.int .i64 bl, .int .i64 bw], .int .u16 c] ∧ DecOut (newD L X ((bitl l m).drop a2n)) a2n (.returned V)) hmx (by kernel_rfl) (by kernel_rfl) ?_
        simp only [List.take_succ_cons, List.take_zero, List.drop_succ_cons, List.drop_zero]
        iterate 4 (refine walkF_one none w2 rfl (by kernel_rfl) ?_; go_big_quiet_step (fail); refine wpQuiet_nil ?_)
        refine walkF_make none w2 rfl rfl rfl (by kernel_rfl) (fun x => ?_) ?_
        · refine grow_call ?_ ((bandOf_any true p L X (plus w2 x) (by omega) (by omega)).mono ?_)
          · simp [execOp, go_sem]
          · rintro e w4 ⟨rfl, b4⟩
            exact ⟨_, rfl, b4, rfl⟩
        rintro V1 z1 rfl g1
        conv => arg 11; simp [Act.put]
        refine walkF_make none w2 rfl rfl rfl (by kernel_rfl) (fun x => ?_) ?_
        · refine grow_call ?_ ((decodeNew_any A c l m a2n L X (plus w2 x) (hb2.out.below (plus_below _ _)) hs hl (by have := H3.out; have := H2n.out; omega) hm hLX (tabGo HT2.out (plus_below _ _))).mono ?_)
          · simp [execOp, go_sem]
          · rintro e w4 ⟨hO, b4⟩
            obtain ⟨d, nx, bl, bw, c, rfl, hh⟩ := hO
            exact ⟨_, rfl, b4, d, nx, bl, bw, c, rfl, d, nx, bl, bw, c, rfl, hh⟩
        rintro V2 z2 ⟨d, nx, bl, bw, c, rfl, hO⟩ g2
        have HO := Lib.hid hO
        clear hO
        conv => arg 11; simp [Act.put]
        iterate 4 (refine walkF_one none w2 rfl (by kernel_rfl) ?_; go_big_quiet_step (fail); refine wpQuiet_nil ?_)
        refine walkF_end ?_
        intro w' h0 hE
        have fR := R2.out.below h0 R2.out.lt
        obtain ⟨⟨r0, r1⟩, r2, r3⟩ := fR.duo
        have t3 := on1 t2 h0
        have z3 := fR.lt
        have FR : Blk _ (w.heap.size + 1 + 1) 50 #[.int .i64 bl, .int .i64 bw] := fR.set2 (.int .i64 bl) (.int .i64 bw)
        obtain ⟨⟨v0, v1⟩, -⟩ := FR.duo
        have TF := (t3.setCell (p := ⟨w.heap.size + 1 + 1, 0, none⟩) (by simp; omega) (.int .i64 bl)).setCell (p := ⟨w.heap.size + 1 + 1, 1, none⟩) (by simp; omega) (.int .i64 bw)
        clear hE
        go_wp2_with fail
        refine bodyPost_ret (v := .tuple #[.int .u64 d, .int .i64 nx, .agg #[.int .i64 bl, .int .i64 bw], .int .u16 c]) (by simp [results, Tryd.results27, go_sem, v0, v1]) rfl ⟨⟨d, nx, bl, bw, c, rfl, ?_⟩, TF⟩
        obtain ⟨d', nx', bl', bw', c', he, hc, hh⟩ := HO.out
        simp only [Ending.returned.injEq, Value.tuple.injEq, Array.mk.injEq, List.cons.injEq, Value.int.injEq, Value.agg.injEq, true_and, and_true, Int.ofNat_inj, Int.natCast_inj] at he
        obtain ⟨rfl, rfl, ⟨rfl, rfl⟩, rfl⟩ := he
        rw [H2.out]
        refine ⟨hc, fun h => ?_⟩
        obtain ⟨e1, e2, e3, e4⟩ := hh h
        exact ⟨e1, by rw [e2, H2n.out]; simp; omega, e3, e4⟩

end Go.Proofs.YtfooggamdbdniaaDoor

/- A bundle of facts that are kept while the world grows: one hypothesis, one step a call. -/
namespace Go.Proofs.YtfooggamdbdniaaDoor
open Go.RowKit

structure Kp where
  P : World → Prop
  go : ∀ w w', P w → Below w.heap.size w w' → P w'

/-- a block -/
def kB (g : Nat) (t : TypeId) (cs : Array Value) : Kp := ⟨fun w => Blk w g t cs, fun _ _ h b => h.below b h.lt⟩
/-- bytes -/
def kS (A : Option Addr) (l : List UInt8) : Kp := ⟨fun w => Bs w A l, fun _ _ h b => h.below b⟩
/-- what the call began with -/
def kW (w0 : World) (B : Nat) (_ : B ≤ w0.heap.size) : Kp := ⟨fun w => Below B w0 w ∧ B ≤ w.heap.size, fun _ _ h b => ⟨h.1.trans (b.mono h.2), Nat.le_trans h.2 b.size⟩⟩
/-- bytes of the call's own -/
def kO (base : Nat) (v : Value) (l : List UInt8) : Kp := ⟨fun w => OwnB w base v l, fun _ _ h b => h.below b⟩
/-- the world has so many blocks -/
def kZ (n : Nat) : Kp := ⟨fun w => n ≤ w.heap.size, fun _ _ h b => Nat.le_trans h b.size⟩
/-- whatever else is kept -/
def kP (P : World → Prop) (h : ∀ w w', P w → Below w.heap.size w w' → P w') : Kp := ⟨P, h⟩

def Ks (w : World) (ks : List Kp) : Prop := ∀ k ∈ ks, k.P w

section
variable {w w' : World} {ks : List Kp}
theorem Ks.nil (w : World) : Ks w [] := fun _ h => by cases h
theorem Ks.cons {k : Kp} (h : Ks w ks) (hk : k.P w) : Ks w (k :: ks) := fun j hj => by
  rcases List.mem_cons.1 hj with rfl | hj
  · exact hk
  · exact h j hj
theorem Ks.go (h : Ks w ks) (b : Below w.heap.size w w') : Ks w' ks := fun k hk => k.go w w' (h k hk) b
theorem Ks.alloc (h : Ks w ks) (o : Obj) : Ks (w.alloc o) ks := h.go (below_alloc w o)
theorem Ks.get (h : Ks w ks) (i : Nat) {k : Kp} (e : ks[i]? = some k) : k.P w := h k (List.mem_of_getElem? e)
theorem Ks.blk (h : Ks w ks) (i : Nat) {g : Nat} {t : TypeId} {cs : Array Value} (e : ks[i]? = some (kB g t cs) := by rfl) : Blk w g t cs := h.get i e
theorem Ks.bs (h : Ks w ks) (i : Nat) {A : Option Addr} {l : List UInt8} (e : ks[i]? = some (kS A l) := by rfl) : Bs w A l := h.get i e
theorem Ks.own (h : Ks w ks) (i : Nat) {base : Nat} {v : Value} {l : List UInt8} (e : ks[i]? = some (kO base v l) := by rfl) : OwnB w base v l := h.get i e
theorem Ks.top (h : Ks w ks) (i : Nat) {w0 : World} {B : Nat} {hB : B ≤ w0.heap.size} (e : ks[i]? = some (kW w0 B hB) := by rfl) : Below B w0 w := (h.get i e : Below B w0 w ∧ _).1
theorem Ks.siz (h : Ks w ks) (i : Nat) {n : Nat} (e : ks[i]? = some (kZ n) := by rfl) : n ≤ w.heap.size := h.get i e
theorem Ks.oth (h : Ks w ks) (i : Nat) {P : World → Prop} {hP : ∀ w w', P w → Below w.heap.size w w' → P w'} (e : ks[i]? = some (kP P hP) := by rfl) : P w := h.get i e
theorem Ks.tail {k : Kp} (h : Ks w (k :: ks)) : Ks w ks := fun j hj => h j (List.mem_cons_of_mem _ hj)
end

/-- at a call's beginning: its own first, then one, two, three boxes -/
theorem Ks.zero (w : World) : Ks w [kW w w.heap.size (Nat.le_refl _)] := (Ks.nil w).cons ⟨Below.refl _ _, Nat.le_refl _⟩
theorem Ks.one (w : World) (b1 : Array Value) (t1 : TypeId) : Ks (w.alloc (.cells b1 t1)) [kW w w.heap.size (Nat.le_refl _), kB w.heap.size t1 b1] :=
  ((Ks.nil _).cons (k := kB _ _ _) (Blk.new w _ _)).cons ⟨below_alloc w _, by simp⟩
theorem Ks.two (w : World) (b1 b2 : Array Value) (t1 t2 : TypeId) : Ks ((w.alloc (.cells b1 t1)).alloc (.cells b2 t2)) [kW w w.heap.size (Nat.le_refl _), kB w.heap.size t1 b1, kB (w.heap.size + 1) t2 b2] := by
  have s1 : (w.alloc (.cells b1 t1)).heap.size = w.heap.size + 1 := by simp
  have h := ((Ks.nil _).cons (k := kB _ _ _) (Blk.new (w.alloc (.cells b1 t1)) t2 b2)).cons (k := kB w.heap.size t1 b1) ((Blk.new w _ _).alloc _)
  rw [s1] at h
  exact h.cons ⟨(below_alloc w _).alloc (by simp) _, by simp; omega⟩
theorem Ks.three (w : World) (b1 b2 b3 : Array Value) (t1 t2 t3 : TypeId) : Ks (((w.alloc (.cells b1 t1)).alloc (.cells b2 t2)).alloc (.cells b3 t3)) [kW w w.heap.size (Nat.le_refl _), kB w.heap.size t1 b1, kB (w.heap.size + 1) t2 b2, kB (w.heap.size + 2) t3 b3] := by
  have s2 : ((w.alloc (.cells b1 t1)).alloc (.cells b2 t2)).heap.size = w.heap.size + 2 := by simp
  have h := (Ks.two w b1 b2 t1 t2).alloc (.cells b3 t3)
  have n := Blk.new ((w.alloc (.cells b1 t1)).alloc (.cells b2 t2)) t3 b3
  rw [s2] at n
  intro k hk
  simp only [List.mem_cons, List.not_mem_nil, or_false] at hk
  rcases hk with rfl | rfl | rfl | rfl
  · exact h.get 0 rfl
  · exact h.get 1 rfl
  · exact h.get 2 rfl
  · exact n
theorem Ks.four (w : World) (b1 b2 b3 b4 : Array Value) (t1 t2 t3 t4 : TypeId) : Ks ((((w.alloc (.cells b1 t1)).alloc (.cells b2 t2)).alloc (.cells b3 t3)).alloc (.cells b4 t4)) [kW w w.heap.size (Nat.le_refl _), kB w.heap.size t1 b1, kB (w.heap.size + 1) t2 b2, kB (w.heap.size + 2) t3 b3, kB (w.heap.size + 3) t4 b4] := by
  have s2 : (((w.alloc (.cells b1 t1)).alloc (.cells b2 t2)).alloc (.cells b3 t3)).heap.size = w.heap.size + 3 := by simp
  have h := (Ks.three w b1 b2 b3 t1 t2 t3).alloc (.cells b4 t4)
  have n := Blk.new (((w.alloc (.cells b1 t1)).alloc (.cells b2 t2)).alloc (.cells b3 t3)) t4 b4
  rw [s2] at n
  intro k hk
  simp only [List.mem_cons, List.not_mem_nil, or_false] at hk
  rcases hk with rfl | rfl | rfl | rfl | rfl
  · exact h.get 0 rfl
  · exact h.get 1 rfl
  · exact h.get 2 rfl
  · exact h.get 3 rfl
  · exact n

/-- new facts in front -/
theorem Ks.box {w : World} {ks : List Kp} (h : Ks w ks) (b : Array Value) (t : TypeId) : Ks (w.alloc (.cells b t)) (kB w.heap.size t b :: ks) := (h.alloc _).cons (k := kB _ _ _) (Blk.new w t b)
theorem Ks.bs_ {w : World} {ks : List Kp} (h : Ks w ks) {A : Option Addr} {l : List UInt8} (b : Bs w A l) : Ks w (kS A l :: ks) := h.cons (k := kS A l) b
theorem Ks.own_ {w : World} {ks : List Kp} (h : Ks w ks) {base : Nat} {v : Value} {l : List UInt8} (b : OwnB w base v l) : Ks w (kO base v l :: ks) := h.cons (k := kO base v l) b
theorem Ks.siz_ {w : World} {ks : List Kp} (h : Ks w ks) : Ks w (kZ w.heap.size :: ks) := h.cons (k := kZ w.heap.size) (Nat.le_refl _)

end Go.Proofs.YtfooggamdbdniaaDoor

/- Layer 3: the program's Get. -/
namespace Go.Proofs.YtfooggamdbdniaaDoor
open Go.RowKit

/-- the table lies there -/
def kT : Kp := kP (fun w => Tab w) fun _ _ h b => tabGo h b
theorem Ks.tab {w : World} {ks : List Kp} (h : Ks w ks) (i : Nat) (e : ks[i]? = some kT := by rfl) : Tab w := (h.get i e : Tab w)
theorem Ks.tab_ {w : World} {ks : List Kp} (h : Ks w ks) (b : Tab w) : Ks w (kT :: ks) := h.cons (k := kT) b

/-- what Get answers: the value, the place behind, what is known, the error -/
def getX (l : List UInt8) (n : Int) (s : XV) (at_ : Int) : Nat × Int × XV × Nat :=
  if soundB l n = false then (0, 0, xv0, 11) else if soundX s = false then (0, 0, xv0, 30)
  else if (decI s l n.toNat at_).2.2.2.2 = 0 then ((decI s l n.toNat at_).1 ^^^ s.prev, at_ + ((decI s l n.toNat at_).2.1 : Int), ⟨true, (decI s l n.toNat at_).1 ^^^ s.prev, (decI s l n.toNat at_).2.2.1, (decI s l n.toNat at_).2.2.2.1⟩, 0)
  else (0, 0, xv0, (decI s l n.toNat at_).2.2.2.2)

theorem getX_dec {l : List UInt8} {m a : Nat} {s : XV} (hb : soundB l (m : Int) = true) (hs : soundX s = true) (ha : a ≤ m) :
    getX l (m : Int) s (a : Int) = ((decX s ((bitl l m).drop a)).1, (if (decX s ((bitl l m).drop a)).2.2.2 = 0 then ((a + (decX s ((bitl l m).drop a)).2.1 : Nat) : Int) else 0), (decX s ((bitl l m).drop a)).2.2.1, (decX s ((bitl l m).drop a)).2.2.2) := by
  unfold getX
  rw [if_neg (by rw [hb]; decide), if_neg (by rw [hs]; decide), Int.toNat_natCast]
  have e : decI s l m (a : Int) = decD s ((bitl l m).drop a) := by
    unfold decI
    rw [if_neg (by omega), Int.toNat_natCast]
  rw [e, decX_D hs]
  unfold upD
  split
  · simp
  · rename_i h
    simp [h]

theorem getX_out {l : List UInt8} {m : Nat} {at_ : Int} {s : XV} (hb : soundB l (m : Int) = true) (hs : soundX s = true) (ha : at_ < 0 ∨ (m : Int) < at_) : getX l (m : Int) s at_ = (0, 0, xv0, 10) := by
  unfold getX
  rw [if_neg (by rw [hb]; decide), if_neg (by rw [hs]; decide), Int.toNat_natCast]
  have e : decI s l m at_ = (0, 0, 0, 0, 10) := if_pos ha
  rw [e]
  rfl

theorem decD_bound {s : XV} (hs : soundX s = true) (r : List Bool) : (decD s r).2.2.2.2 = 0 → (decD s r).1 < 18446744073709551616 ∧ (decD s r).2.2.1 < 256 ∧ (decD s r).2.2.2.1 < 256 := by
  have hlw : s.lead + s.width ≤ 64 := by
    unfold soundX at hs
    cases h : s.has <;> rw [h] at hs <;> simp at hs <;> omega
  have hO : ∀ r : List Bool, (oldD s.lead s.width r).2.2.2.2 = 0 → (oldD s.lead s.width r).1 < 18446744073709551616 ∧ (oldD s.lead s.width r).2.2.1 < 256 ∧ (oldD s.lead s.width r).2.2.2.1 < 256 := by
    intro r
    unfold oldD
    split
    · intro h; cases h
    · split
      · intro h; cases h
      · rename_i h1 _
        intro _
        have hl := numB_lt (r.take s.width)
        rw [List.length_take, Nat.min_eq_left (by omega)] at hl
        exact ⟨shl_lt hl hlw, by simp only; omega, by simp only; omega⟩
  have hN : ∀ r : List Bool, (newD s.lead s.width r).2.2.2.2 = 0 → (newD s.lead s.width r).1 < 18446744073709551616 ∧ (newD s.lead s.width r).2.2.1 < 256 ∧ (newD s.lead s.width r).2.2.2.1 < 256 := by
    intro r
    unfold newD
    split
    · intro h; cases h
    · split
      · intro h; cases h
      · split
        · intro h; cases h
        · split
          · intro h; cases h
          · rename_i h1 h2 h3 h4
            intro _
            have hl := numB_lt ((r.drop 11).take (numB ((r.drop 5).take 6) + 1))
            rw [List.length_take, List.length_drop, Nat.min_eq_left (by omega)] at hl
            exact ⟨shl_lt hl (by omega), by simp only; omega, by simp only; omega⟩
  unfold decD
  split
  · split
    · intro h; cases h
    · intro _
      have hl := numB_lt (r.take 64)
      rw [List.length_take, Nat.min_eq_left (by omega)] at hl
      exact ⟨hl, by simp, by simp⟩
  · split
    · intro h; cases h
    · intro _; exact ⟨by simp, by simp only; omega, by simp only; omega⟩
    · intro h; cases h
    · exact hO _
    · exact hN _

theorem decI_bound {s : XV} (hs : soundX s = true) (l : List UInt8) (m : Nat) (at_ : Int) : (decI s l m at_).2.2.2.2 = 0 → (decI s l m at_).1 < 18446744073709551616 ∧ (decI s l m at_).2.2.1 < 256 ∧ (decI s l m at_).2.2.2.1 < 256 := by
  unfold decI
  split
  · intro h; cases h
  · exact decD_bound hs _

set_option maxRecDepth 100000 in
set_option maxHeartbeats 1000000 in
theorem xget_any (A : Option Addr) (c : Nat) (l : List UInt8) (n at_ : Int) (h : Bool) (p L X : Nat) (w : World) (hb : Bs w A l) (hn : -9223372036854775808 ≤ n ∧ n ≤ 9223372036854775807) (hl : l.length ≤ 100000) (ha : -9223372036854775808 ≤ at_ ∧ at_ ≤ 9223372036854775807) (hp : p < 18446744073709551616) (hL : L < 256) (hX : X < 256) (hT : Tab w) :
    Calls Tryd.prog 15 #[.agg #[.slice A l.length c, .int .i64 n], .int .i64 at_, .agg #[.bool h, .int .u64 p, .int .u8 L, .int .u8 X]] w fun e w' => e = .returned (.tuple #[.int .u64 (getX l n ⟨h, p, L, X⟩ at_).1, .int .i64 (getX l n ⟨h, p, L, X⟩ at_).2.1, .agg #[.bool (getX l n ⟨h, p, L, X⟩ at_).2.2.1.has, .int .u64 (getX l n ⟨h, p, L, X⟩ at_).2.2.1.prev, .int .u8 (getX l n ⟨h, p, L, X⟩ at_).2.2.1.lead, .int .u8 (getX l n ⟨h, p, L, X⟩ at_).2.2.1.width], .int .u16 (getX l n ⟨h, p, L, X⟩ at_).2.2.2]) ∧ Below w.heap.size w w' := by
  have hlm : l.length ≤ maxLen := by unfold maxLen; omega
  have K := ((Ks.three w #[.slice A l.length c, .int .i64 n] #[.bool h, .int .u64 p, .int .u8 L, .int .u8 X] #[.bool false, .int .u64 0, .int .u8 0, .int .u8 0] 29 24 24)).bs_ (hb.below (Ks.three w _ _ _ _ _ _ |>.top 0)) |>.tab_ (tabGo hT (Ks.three w _ _ _ _ _ _ |>.top 0))
  go_enter Tryd.func15, Tryd.ntmps15
  go_wp2_with fail
  generalize (((w.alloc (.cells #[.slice A l.length c, .int .i64 n] 29)).alloc (.cells #[.bool h, .int .u64 p, .int .u8 L, .int .u8 X] 24)).alloc (.cells #[.bool false, .int .u64 0, .int .u8 0, .int .u8 0] 24)) = W0 at *
  have HK := Lib.hid K
  clear K hb hT
  refine (sound_any A c l n W0 (HK.out.bs 1) hn hlm).mono ?_
  rintro e w1 ⟨rfl, b1⟩
  replace HK := Lib.hid (HK.out.go b1)
  clear b1
  obtain ⟨⟨q0, q1, q2, q3⟩, g0, g1, g2, g3⟩ := (HK.out.blk 5).quad
  obtain ⟨⟨u0, u1, u2, u3⟩, -⟩ := (HK.out.blk 4).quad
  obtain ⟨⟨v0, v1⟩, -⟩ := (HK.out.blk 3).duo
  cases hs : soundB l n
  · have Hs := Lib.hid hs
    clear hs
    go_wp2_with fail
    have FR := (HK.out.blk 5).set4 (.bool false) (.int .u64 0) (.int .u8 0) (.int .u8 0)
    obtain ⟨⟨s0, s1, s2, s3⟩, -⟩ := FR.quad
    refine bodyPost_ret (v := .tuple #[.int .u64 0, .int .i64 0, .agg #[.bool false, .int .u64 0, .int .u8 0, .int .u8 0], .int .u16 11]) (by simp [results, Tryd.results15, go_sem, s0, s1, s2, s3]) rfl ⟨?_, below_set4 (HK.out.top 2) (by omega) _ _ _ _⟩
    unfold getX
    rw [if_pos Hs.out]
    rfl
  · obtain ⟨m, rfl, hm8, -⟩ := sound_nat hs
    have Hs := Lib.hid hs
    clear hs
    go_wp2_with fail
    refine (xsound_any h p L X _ hL hX).mono ?_
    rintro e w2 ⟨rfl, b2⟩
    replace HK := Lib.hid (HK.out.go b2)
    clear b2 q0 q1 q2 q3 g0 g1 g2 g3 u0 u1 u2 u3 v0 v1
    obtain ⟨⟨q0, q1, q2, q3⟩, g0, g1, g2, g3⟩ := (HK.out.blk 5).quad
    obtain ⟨⟨u0, u1, u2, u3⟩, -⟩ := (HK.out.blk 4).quad
    obtain ⟨⟨v0, v1⟩, -⟩ := (HK.out.blk 3).duo
    cases hx : soundX ⟨h, p, L, X⟩
    · have Hx := Lib.hid hx
      clear hx
      go_wp2_with fail
      have FR := (HK.out.blk 5).set4 (.bool false) (.int .u64 0) (.int .u8 0) (.int .u8 0)
      obtain ⟨⟨s0, s1, s2, s3⟩, -⟩ := FR.quad
      refine bodyPost_ret (v := .tuple #[.int .u64 0, .int .i64 0, .agg #[.bool false, .int .u64 0, .int .u8 0, .int .u8 0], .int .u16 30]) (by simp [results, Tryd.results15, go_sem, s0, s1, s2, s3]) rfl ⟨?_, below_set4 (HK.out.top 2) (by omega) _ _ _ _⟩
      unfold getX
      rw [if_neg (by rw [Hs.out]; decide), if_pos Hx.out]
      rfl
    · have Hx := Lib.hid hx
      have HDb := Lib.hid (decI_bound hx l m at_)
      clear hx
      have hd := decode_any A c l m at_ h p L X w2 (HK.out.bs 1) Hs.out hl ha (by omega) Hx.out (HK.out.tab 0)
      have HX : Hid (getX l m ⟨h, p, L, X⟩ at_ = if (decI ⟨h, p, L, X⟩ l m at_).2.2.2.2 = 0 then ((decI ⟨h, p, L, X⟩ l m at_).1 ^^^ p, at_ + ((decI ⟨h, p, L, X⟩ l m at_).2.1 : Int), ⟨true, (decI ⟨h, p, L, X⟩ l m at_).1 ^^^ p, (decI ⟨h, p, L, X⟩ l m at_).2.2.1, (decI ⟨h, p, L, X⟩ l m at_).2.2.2.1⟩, 0)
          else (0, 0, xv0, (decI ⟨h, p, L, X⟩ l m at_).2.2.2.2)) := Lib.hid (by
        unfold getX
        rw [if_neg (by rw [Hs.out]; decide), if_neg (by rw [Hx.out]; decide), Int.toNat_natCast])
      have HD := Lib.hid hd
      clear hd
      go_wp2_with fail
      refine HD.out.mono ?_
      rintro e w3 ⟨⟨d, nx, bl, bw, ec, rfl, hec, hok⟩, b3⟩
      replace HK := Lib.hid ((HK.out.go b3).box #[.int .i64 bl, .int .i64 bw] 50)
      have Hec := Lib.hid hec
      have Hok := Lib.hid hok
      have z3 := b3.size
      clear b3 q0 q1 q2 q3 g0 g1 g2 g3 u0 u1 u2 u3 v0 v1 HD hec hok
      obtain ⟨⟨q0, q1, q2, q3⟩, g0, g1, g2, g3⟩ := (HK.out.blk 6).quad
      obtain ⟨⟨u0, u1, u2, u3⟩, -⟩ := (HK.out.blk 5).quad
      obtain ⟨⟨y0, y1⟩, -⟩ := (HK.out.blk 0).duo
      by_cases h0 : ec = 0
      · subst h0
        obtain ⟨k1, k2, k3, k4⟩ := Hok.out rfl
        obtain ⟨j1, j2, j3⟩ := HDb.out Hec.out.symm
        rw [← k1] at j1
        rw [← k3] at j2
        rw [← k4] at j3
        have hx : bits .xor .u64 (d : Int) (p : Int) = ((d ^^^ p : Nat) : Int) := xor_int d p j1 hp
        obtain ⟨v, hv⟩ : ∃ v, v = d ^^^ p := ⟨_, rfl⟩
        rw [← hv] at hx
        have hA := after_any bl bw v
        have Hk := Lib.hid (And.intro k1 (And.intro k2 (And.intro k3 k4)))
        have Hv := Lib.hid hv
        clear k1 k2 k3 k4 hv
        go_wp2_with fail
        refine (hA _ j2 j3).mono ?_
        rintro e w4 ⟨rfl, b4⟩
        replace HK := Lib.hid (HK.out.go b4)
        clear b4 q0 q1 q2 q3 g0 g1 g2 g3 u0 u1 u2 u3 y0 y1
        obtain ⟨⟨q0, q1, q2, q3⟩, g0, g1, g2, g3⟩ := (HK.out.blk 6).quad
        go_wp2_with fail
        have FR := (HK.out.blk 6).set4 (.bool true) (.int .u64 v) (.int .u8 bl) (.int .u8 bw)
        obtain ⟨⟨s0, s1, s2, s3⟩, -⟩ := FR.quad
        refine bodyPost_ret (v := .tuple #[.int .u64 v, .int .i64 nx, .agg #[.bool true, .int .u64 v, .int .u8 bl, .int .u8 bw], .int .u16 0]) (by simp [results, Tryd.results15, go_sem, s0, s1, s2, s3]) rfl ⟨?_, below_set4 (HK.out.top 3) (by omega) _ _ _ _⟩
        obtain ⟨k1, k2, k3, k4⟩ := Hk.out
        rw [HX.out, if_pos Hec.out.symm, ← k1, ← k2, ← k3, ← k4, Hv.out]
        rfl
      · have h0' : ((ec : Int) == 0) = false := beq_eq_false_iff_ne.2 (by omega)
        go_wp2_with fail
        have FR := (HK.out.blk 6).set4 (.bool false) (.int .u64 0) (.int .u8 0) (.int .u8 0)
        obtain ⟨⟨s0, s1, s2, s3⟩, -⟩ := FR.quad
        refine bodyPost_ret (v := .tuple #[.int .u64 0, .int .i64 0, .agg #[.bool false, .int .u64 0, .int .u8 0, .int .u8 0], .int .u16 ec]) (by simp [results, Tryd.results15, go_sem, s0, s1, s2, s3]) rfl ⟨?_, below_set4 (HK.out.top 3) (by omega) _ _ _ _⟩
        rw [HX.out, if_neg (by rw [← Hec.out]; exact h0), Hec.out]
        rfl

end Go.Proofs.YtfooggamdbdniaaDoor

/- Contracts of the document's own functions of layer 1: Get, its errors. -/
namespace Go.Proofs.YtfooggamdbdniaaDoor
open Go.RowKit

set_option maxHeartbeats 1000000 in
theorem refGet_err (A : Option Addr) (c : Nat) (l : List UInt8) (n at_ width : Int) (w : World) (hb : Bs w A l) (hn : -9223372036854775808 ≤ n ∧ n ≤ 9223372036854775807) (hl : l.length ≤ 1099511627776)
    (ha : -9223372036854775808 ≤ at_ ∧ at_ ≤ 9223372036854775807) (hwd : -9223372036854775808 ≤ width ∧ width ≤ 9223372036854775807) (k : Nat) (hk : (getSpec l n at_ width).2 = k) (hk0 : k ≠ 0) :
    Calls Tryd.prog 40 #[.agg #[.slice A l.length c, .int .i64 n], .int .i64 at_, .int .i64 width] w fun e w' => e = .returned (.tuple #[.int .u64 0, .int .i64 k]) ∧ Below w.heap.size w w' := by
  have hb0 := hb.below (below_alloc w (.cells #[.slice A l.length c, .int .i64 n] 29))
  by_cases hs : soundB l n = false
  · obtain rfl : k = 11 := by rw [← hk]; simp [getSpec, hs]
    have HS := Lib.hid hs
    clear hs hk
    go_enter Tryd.func40, Tryd.ntmps40
    go_wp2_with (go_at_call 23; refine (refSound_any A c l n _ hb0 hn hl).mono ?_; rw [HS.out]; rintro e w1 ⟨rfl, hb1⟩; obtain ⟨c0, c1, hsz, _, _⟩ := kept1 hb1 (by simp))
    go_ret2
    exact ⟨rfl, (below_alloc _ _).trans (hb1.mono (by simp))⟩
  · have HS := Lib.hid (show soundB l n = true by simpa using hs)
    by_cases hw : width < 0 ∨ 64 < width
    · obtain rfl : k = 1 := by rw [← hk]; simp [getSpec, hs, hw]
      clear hs hk
      have key : ∀ b, decide (width < 0) = b → (b = false → 64 < width) → 
          Calls Tryd.prog 40 #[.agg #[.slice A l.length c, .int .i64 n], .int .i64 at_, .int .i64 width] w fun e w' => e = .returned (.tuple #[.int .u64 0, .int .i64 (1 : Nat)]) ∧ Below w.heap.size w w' := by
        intro b hd h64
        cases b
        all_goals
          try have hg := h64 rfl
          clear h64 hw
          go_enter Tryd.func40, Tryd.ntmps40
          go_wp2_with (go_at_call 23; refine (refSound_any A c l n _ hb0 hn hl).mono ?_; rw [HS.out]; rintro e w1 ⟨rfl, hb1⟩; obtain ⟨c0, c1, hsz, _, _⟩ := kept1 hb1 (by simp))
          go_ret2
          exact ⟨rfl, (below_alloc _ _).trans (hb1.mono (by simp))⟩
      exact key _ rfl (by simp; omega)
    · have he : at_ < 0 ∨ n < at_ ∨ n - at_ < width := by
        apply Classical.byContradiction; intro he
        exact hk0 (by rw [← hk]; simp [getSpec, hs, hw, he])
      obtain rfl : k = 10 := by rw [← hk]; simp [getSpec, hs, hw, he]
      obtain ⟨m, rfl, hm8, -⟩ := sound_nat (show soundB l n = true by simpa using hs)
      clear hs hk
      have hd : decide (width < 0) = false := by simp; omega
      have h64 : ¬ 64 < width := by omega
      have key : ∀ b b', decide (at_ < 0) = b → decide ((m : Int) < at_) = b' → (b = false → b' = false → (m : Int) - at_ < width) → (b = false → 0 ≤ at_) → (b' = false → at_ ≤ m) →
          Calls Tryd.prog 40 #[.agg #[.slice A l.length c, .int .i64 m], .int .i64 at_, .int .i64 width] w fun e w' => e = .returned (.tuple #[.int .u64 0, .int .i64 (10 : Nat)]) ∧ Below w.heap.size w w' := by
        intro b b' h1 h2 h3 h4 h5
        cases b <;> cases b'
        all_goals
          try have hg := h3 rfl rfl
          try have hg4 := h4 rfl
          try have hg5 := h5 rfl
          clear h3 h4 h5 he hw
          go_enter Tryd.func40, Tryd.ntmps40
          go_wp2_with (go_at_call 23; refine (refSound_any A c l m _ hb0 hn hl).mono ?_; rw [HS.out]; rintro e w1 ⟨rfl, hb1⟩; obtain ⟨c0, c1, hsz, _, _⟩ := kept1 hb1 (by simp))
          go_ret2
          exact ⟨rfl, (below_alloc _ _).trans (hb1.mono (by simp))⟩
      exact key _ _ rfl rfl (by simp; omega) (by simp) (by simp)

theorem refGet_any (A : Option Addr) (c : Nat) (l : List UInt8) (n at_ width : Int) (w : World) (hb : Bs w A l) (hn : -9223372036854775808 ≤ n ∧ n ≤ 9223372036854775807) (hl : l.length ≤ 1099511627776)
    (ha : -9223372036854775808 ≤ at_ ∧ at_ ≤ 9223372036854775807) (hwd : -9223372036854775808 ≤ width ∧ width ≤ 9223372036854775807) :
    Calls Tryd.prog 40 #[.agg #[.slice A l.length c, .int .i64 n], .int .i64 at_, .int .i64 width] w fun e w' =>
      e = .returned (.tuple #[.int .u64 (getSpec l n at_ width).1, .int .i64 (getSpec l n at_ width).2]) ∧ Below w.heap.size w w' := by
  by_cases h0 : (getSpec l n at_ width).2 = 0
  · unfold getSpec at h0
    split at h0
    · simp at h0
    · split at h0
      · simp at h0
      · split at h0
        · simp at h0
        · rename_i hs hw he
          obtain ⟨m, rfl, hm8, -⟩ := sound_nat (show soundB l n = true by simpa using hs)
          obtain ⟨a, rfl⟩ := Int.eq_ofNat_of_zero_le (show 0 ≤ at_ by omega)
          obtain ⟨d, rfl⟩ := Int.eq_ofNat_of_zero_le (show 0 ≤ width by omega)
          rw [show getSpec l m a d = (numB (cutl l a d), 0) from by simp only [getSpec, if_neg hs, if_neg hw, if_neg he]; rfl]
          exact refGet_ok A c l m a d w hb hl (by simpa using hs) (by omega) (by omega)
  · have h1 : (getSpec l n at_ width).1 = 0 := by
      unfold getSpec at h0 ⊢
      split
      · rfl
      · split
        · rfl
        · split
          · rfl
          · rename_i hs hw he; simp [hs, hw, he] at h0
    rw [h1]
    exact refGet_err A c l n at_ width w hb hn hl ha hwd _ rfl h0

end Go.Proofs.YtfooggamdbdniaaDoor

/- Layer 3: what a value would be, as the document reads it. -/
namespace Go.Proofs.YtfooggamdbdniaaDoor
open Go.RowKit

def ValOut (V : Nat × Nat × Nat) (e : Ending) : Prop :=
  ∃ v n c : Nat, e = .returned (.tuple #[.int .u64 v, .int .i64 n, .int .i64 c]) ∧ c = V.2.2 ∧ (c = 0 → v = V.1 ∧ n = V.2.1)

theorem val_facts (s : XV) {l : List UInt8} {m a : Nat} (hs : soundB l (m : Int) = true) (ha : a ≤ m) (hLW : s.lead + s.width ≤ 64) :
    (s.has = false ∧ ∃ g1 g2 : Nat, getSpec l (m : Int) (a : Int) 64 = (g1, g2) ∧ ((g2 = 10 ∧ (valX s ((bitl l m).drop a)).2.2 = 10) ∨ (g2 = 0 ∧ valX s ((bitl l m).drop a) = (g1, 64, 0)))) ∨
    (s.has = true ∧ ∃ g1 g2 : Nat, getSpec l (m : Int) (a : Int) 1 = (g1, g2) ∧
      ((g2 = 10 ∧ (valX s ((bitl l m).drop a)).2.2 = 10) ∨ (g2 = 0 ∧ g1 = 0 ∧ valX s ((bitl l m).drop a) = (s.prev, 1, 0)) ∨
       (g2 = 0 ∧ g1 = 1 ∧ a + 1 ≤ m ∧ ∃ k1 k2 : Nat, getSpec l (m : Int) ((a + 1 : Nat) : Int) 1 = (k1, k2) ∧
          ((k2 = 10 ∧ (valX s ((bitl l m).drop a)).2.2 = 10) ∨
           (k2 = 0 ∧ k1 = 0 ∧ a + 2 ≤ m ∧ ∃ d1 d2 : Nat, getSpec l (m : Int) ((a + 2 : Nat) : Int) (s.width : Int) = (d1, d2) ∧
             ((d2 = 10 ∧ (valX s ((bitl l m).drop a)).2.2 = 10) ∨ (d2 = 0 ∧ d1 < 2 ^ s.width ∧ valX s ((bitl l m).drop a) = (d1 * 2 ^ (64 - s.lead - s.width) ^^^ s.prev, 2 + s.width, 0)))) ∨
           (k2 = 0 ∧ k1 = 1 ∧ a + 2 ≤ m ∧ ∃ x1 x2 : Nat, getSpec l (m : Int) ((a + 2 : Nat) : Int) 5 = (x1, x2) ∧
             ((x2 = 10 ∧ (valX s ((bitl l m).drop a)).2.2 = 10) ∨ (x2 = 0 ∧ x1 < 32 ∧ a + 7 ≤ m ∧ ∃ y1 y2 : Nat, getSpec l (m : Int) ((a + 7 : Nat) : Int) 6 = (y1, y2) ∧
               ((y2 = 10 ∧ (valX s ((bitl l m).drop a)).2.2 = 10) ∨ (y2 = 0 ∧ y1 < 64 ∧ a + 13 ≤ m ∧
                 ((64 < x1 + (y1 + 1) ∧ (valX s ((bitl l m).drop a)).2.2 = 30) ∨
                  (x1 + (y1 + 1) ≤ 64 ∧ ∃ n1 n2 : Nat, getSpec l (m : Int) ((a + 13 : Nat) : Int) ((y1 + 1 : Nat) : Int) = (n1, n2) ∧
                    ((n2 = 10 ∧ (valX s ((bitl l m).drop a)).2.2 = 10) ∨ (n2 = 0 ∧ n1 < 2 ^ (y1 + 1) ∧ valX s ((bitl l m).drop a) = (n1 * 2 ^ (64 - x1 - (y1 + 1)) ^^^ s.prev, 13 + (y1 + 1), 0)))))))))))))) := by
  have hlen : ((bitl l m).drop a).length = m - a := by rw [List.length_drop, bitl_length]
  cases hh : s.has
  · refine Or.inl ⟨rfl, ?_⟩
    have h0 := get_front (d := 64) hs ha (by omega)
    rw [show ((64 : Nat) : Int) = 64 from rfl] at h0
    rw [h0]
    unfold valX
    rw [if_pos hh]
    by_cases h1 : ((bitl l m).drop a).length < 64
    · rw [if_pos h1, if_pos h1]
      exact ⟨0, 10, rfl, Or.inl ⟨rfl, rfl⟩⟩
    · rw [if_neg h1, if_neg h1]
      exact ⟨_, 0, rfl, Or.inr ⟨rfl, rfl⟩⟩
  · refine Or.inr ⟨rfl, ?_⟩
    have hne : ¬ s.has = false := by rw [hh]; decide
    rcases get_bit hs ha with ⟨hr, hma, hg⟩ | ⟨b, r, hr, hma, hr1, hg⟩
    · rw [hg, hr]
      exact ⟨0, 10, rfl, Or.inl ⟨rfl, by unfold valX; rw [if_neg hne]⟩⟩
    · rw [hg, hr]
      cases b
      · exact ⟨0, 0, rfl, Or.inr (Or.inl ⟨rfl, rfl, by unfold valX; rw [if_neg hne]⟩)⟩
      · refine ⟨1, 0, rfl, Or.inr (Or.inr ⟨rfl, rfl, hma, ?_⟩)⟩
        rcases get_bit (a := a + 1) hs hma with ⟨hr2, hma2, hg2⟩ | ⟨b2, r2, hr2, hma2, hr3, hg2⟩
        · rw [hg2]
          rw [hr1] at hr2
          rw [hr2]
          exact ⟨0, 10, rfl, Or.inl ⟨rfl, by unfold valX; rw [if_neg hne]⟩⟩
        · rw [hg2]
          rw [hr1] at hr2
          rw [hr2]
          have hr3 : (bitl l m).drop (a + 2) = r2 := hr3
          have hl2 : r2.length = m - (a + 2) := by rw [← hr3, List.length_drop, bitl_length]
          cases b2
          · refine ⟨0, 0, rfl, Or.inr (Or.inl ⟨rfl, rfl, hma2, ?_⟩)⟩
            have h0 := get_front (a := a + 2) (d := s.width) hs hma2 (by omega)
            rw [hr3] at h0
            rw [h0]
            by_cases h1 : r2.length < s.width
            · rw [if_pos h1]
              exact ⟨0, 10, rfl, Or.inl ⟨rfl, by unfold valX; rw [if_neg hne]; simp only [h1, ↓reduceIte]⟩⟩
            · rw [if_neg h1]
              exact ⟨_, 0, rfl, Or.inr ⟨rfl, take_lt _ _, by unfold valX; rw [if_neg hne]; simp only [h1, ↓reduceIte]⟩⟩
          · refine ⟨1, 0, rfl, Or.inr (Or.inr ⟨rfl, rfl, hma2, ?_⟩)⟩
            have hV : valX s (true :: true :: r2) = if r2.length < 11 then (0, 0, 10)
                else if 64 < numB (r2.take 5) + (numB ((r2.drop 5).take 6) + 1) then (0, 0, 30)
                else if r2.length < 11 + (numB ((r2.drop 5).take 6) + 1) then (0, 0, 10)
                else (numB ((r2.drop 11).take (numB ((r2.drop 5).take 6) + 1)) * 2 ^ (64 - numB (r2.take 5) - (numB ((r2.drop 5).take 6) + 1)) ^^^ s.prev, 13 + (numB ((r2.drop 5).take 6) + 1), 0) := by
              unfold valX
              rw [if_neg hne]
            rw [hV]
            have h0 := get_front (a := a + 2) (d := 5) hs hma2 (by omega)
            rw [show ((5 : Nat) : Int) = 5 from rfl, hr3] at h0
            rw [h0]
            by_cases h1 : r2.length < 5
            · rw [if_pos h1]
              exact ⟨0, 10, rfl, Or.inl ⟨rfl, by rw [if_pos (by omega)]⟩⟩
            · rw [if_neg h1]
              refine ⟨_, 0, rfl, Or.inr ⟨rfl, take_lt _ _, by omega, ?_⟩⟩
              have h6 := get_front (a := a + 7) (d := 6) hs (by omega) (by omega)
              have d5 : (bitl l m).drop (a + 7) = r2.drop 5 := by rw [← hr3, List.drop_drop]
              have d11 : (bitl l m).drop (a + 13) = r2.drop 11 := by rw [← hr3, List.drop_drop]
              rw [show ((6 : Nat) : Int) = 6 from rfl, d5, List.length_drop] at h6
              rw [h6]
              by_cases h2 : r2.length < 11
              · rw [if_pos (by omega)]
                exact ⟨0, 10, rfl, Or.inl ⟨rfl, by rw [if_pos h2]⟩⟩
              · rw [if_neg (by omega), if_neg h2]
                refine ⟨_, 0, rfl, Or.inr ⟨rfl, take_lt _ _, by omega, ?_⟩⟩
                have hg := get_front (a := a + 13) (d := numB ((r2.drop 5).take 6) + 1) hs (by omega) (by have := take_lt (r2.drop 5) 6; omega)
                rw [d11, List.length_drop] at hg
                rw [hg]
                generalize numB ((r2.drop 5).take 6) = Y at *
                generalize numB (r2.take 5) = X at *
                by_cases h3 : 64 < X + (Y + 1)
                · exact Or.inl ⟨h3, by rw [if_pos h3]⟩
                · refine Or.inr ⟨by omega, ?_⟩
                  rw [if_neg h3]
                  by_cases h4 : r2.length < 11 + (Y + 1)
                  · rw [if_pos (by omega), if_pos h4]
                    exact ⟨0, 10, rfl, Or.inl ⟨rfl, rfl⟩⟩
                  · rw [if_neg (by omega), if_neg h4]
                    exact ⟨_, 0, rfl, Or.inr ⟨rfl, take_lt _ _, rfl⟩⟩

set_option maxRecDepth 100000 in
set_option maxHeartbeats 1000000 in
theorem rxvalue_any (A : Option Addr) (c : Nat) (l : List UInt8) (m a : Nat) (h : Bool) (p L X : Nat) (w : World) (hb : Bs w A l) (hs : soundB l (m : Int) = true) (hl : l.length ≤ 100000) (ha : a ≤ m) (hm : m ≤ 800000) (hx : soundX ⟨h, p, L, X⟩ = true) (hp : p < 18446744073709551616) :
    Calls Tryd.prog 29 #[.agg #[.slice A l.length c, .int .i64 m], .int .i64 a, .agg #[.bool h, .int .u64 p, .int .u8 L, .int .u8 X]] w fun e w' => ValOut (valX ⟨h, p, L, X⟩ ((bitl l m).drop a)) e ∧ Below w.heap.size w w' := by
  have hLX : L + X ≤ 64 := by
    unfold soundX at hx
    cases h <;> simp at hx <;> omega
  have hf := val_facts ⟨h, p, L, X⟩ hs ha hLX
  obtain ⟨V, hV⟩ : ∃ V, V = valX ⟨h, p, L, X⟩ ((bitl l m).drop a) := ⟨_, rfl⟩
  rw [← hV] at hf ⊢
  clear hV hx
  have K := (Ks.two w #[.slice A l.length c, .int .i64 m] #[.bool h, .int .u64 p, .int .u8 L, .int .u8 X] 29 24).bs_ (hb.below (Ks.two w _ _ _ _ |>.top 0))
  have wr : ∀ k : Nat, k ≤ 64 → IntKind.i64.wrap ((a : Int) + k) = ((a + k : Nat) : Int) := fun k _ => by rw [IntKind.wrap_i64]; omega
  rcases hf with ⟨hh, g1, g2, hG, hc⟩ | ⟨hh, g1, g2, hG, hc⟩
  · skip
    subst hh
    go_enter Tryd.func29, Tryd.ntmps29
    go_wp2_with fail
    generalize (w.alloc (.cells #[.slice A l.length c, .int .i64 m] 29)).alloc (.cells #[.bool false, .int .u64 p, .int .u8 L, .int .u8 X] 24) = W0 at *
    have HK := Lib.hid K
    clear K hb
    obtain ⟨⟨u0, u1, u2, u3⟩, -⟩ := (HK.out.blk 3).quad
    obtain ⟨⟨v0, v1⟩, -⟩ := (HK.out.blk 2).duo
    have hg := refGet_any A c l m (a : Int) 64 W0 (HK.out.bs 0) (by omega) (by omega) (by omega) (by omega)
    rw [hG] at hg
    have HG := Lib.hid hg
    have HC := Lib.hid hc
    clear hg hG hc
    go_wp2_with fail
    refine HG.out.mono ?_
    rintro e w1 ⟨rfl, b1⟩
    replace HK := Lib.hid (HK.out.go b1)
    clear b1 HG u0 u1 u2 u3 v0 v1
    obtain ⟨⟨u0, u1, u2, u3⟩, -⟩ := (HK.out.blk 3).quad
    obtain ⟨⟨v0, v1⟩, -⟩ := (HK.out.blk 2).duo
    go_wp2_with fail
    refine bodyPost_ret (v := .tuple #[.int .u64 g1, .int .i64 64, .int .i64 g2]) (by simp [results, Tryd.results29, go_sem]) rfl ⟨⟨g1, 64, g2, rfl, ?_, ?_⟩, HK.out.top 1⟩
    · rcases HC.out with ⟨h1, h2⟩ | ⟨h1, h2⟩
      · rw [h1, h2]
      · rw [h1, h2]
    · rcases HC.out with ⟨h1, h2⟩ | ⟨h1, h2⟩
      · intro h; omega
      · intro _; rw [h2]; exact ⟨rfl, rfl⟩
  · skip
    subst hh
    go_enter Tryd.func29, Tryd.ntmps29
    go_wp2_with fail
    generalize (w.alloc (.cells #[.slice A l.length c, .int .i64 m] 29)).alloc (.cells #[.bool true, .int .u64 p, .int .u8 L, .int .u8 X] 24) = W0 at *
    have HK := Lib.hid K
    clear K hb
    obtain ⟨⟨u0, u1, u2, u3⟩, -⟩ := (HK.out.blk 3).quad
    obtain ⟨⟨v0, v1⟩, -⟩ := (HK.out.blk 2).duo
    have hg := refGet_any A c l m (a : Int) 1 W0 (HK.out.bs 0) (by omega) (by omega) (by omega) (by omega)
    rw [hG] at hg
    have HG := Lib.hid hg
    have HC := Lib.hid hc
    clear hg hG hc
    go_wp2_with fail
    refine HG.out.mono ?_
    rintro e w1 ⟨rfl, b1⟩
    replace HK := Lib.hid (HK.out.go b1)
    clear b1 HG u0 u1 u2 u3 v0 v1
    obtain ⟨⟨u0, u1, u2, u3⟩, -⟩ := (HK.out.blk 3).quad
    obtain ⟨⟨v0, v1⟩, -⟩ := (HK.out.blk 2).duo
    rcases HC.out with ⟨rfl, h2⟩ | ⟨rfl, rfl, h2⟩ | ⟨rfl, rfl, ha1, k1, k2, hG, hc⟩
    · have H := Lib.hid h2
      clear h2 HC
      go_wp2_with fail
      refine bodyPost_ret (v := .tuple #[.int .u64 p, .int .i64 1, .int .i64 10]) (by simp [results, Tryd.results29, go_sem]) rfl ⟨⟨p, 1, 10, rfl, H.out.symm, fun h => by cases h⟩, HK.out.top 1⟩
    · have H := Lib.hid h2
      clear h2 HC
      go_wp2_with fail
      refine bodyPost_ret (v := .tuple #[.int .u64 p, .int .i64 1, .int .i64 0]) (by simp [results, Tryd.results29, go_sem]) rfl ⟨⟨p, 1, 0, rfl, by rw [H.out], fun _ => by rw [H.out]; exact ⟨rfl, rfl⟩⟩, HK.out.top 1⟩
    · clear HC
      have hw1 : IntKind.i64.wrap ((a : Int) + 1) = ((a + 1 : Nat) : Int) := wr 1 (by omega)
      obtain ⟨a1, ha1⟩ : ∃ a1, a1 = a + 1 := ⟨_, rfl⟩
      rw [← ha1] at hw1 hG
      have HA1 := Lib.hid ha1
      clear ha1
      have hg := refGet_any A c l m (a1 : Int) 1 w1 (HK.out.bs 0) (by omega) (by omega) (by have := HA1.out; omega) (by omega)
      rw [hG] at hg
      have HG := Lib.hid hg
      have HC := Lib.hid hc
      clear hg hG hc
      go_wp2_with fail
      refine HG.out.mono ?_
      rintro e w2 ⟨rfl, b1⟩
      replace HK := Lib.hid (HK.out.go b1)
      clear b1 HG u0 u1 u2 u3 v0 v1
      obtain ⟨⟨u0, u1, u2, u3⟩, -⟩ := (HK.out.blk 3).quad
      obtain ⟨⟨v0, v1⟩, -⟩ := (HK.out.blk 2).duo
      rcases HC.out with ⟨rfl, h2⟩ | ⟨rfl, rfl, ha2, d1, d2, hG, hc⟩ | ⟨rfl, rfl, ha2, x1, x2, hG, hc⟩
      · have H := Lib.hid h2
        clear h2 HC
        go_wp2_with fail
        refine bodyPost_ret (v := .tuple #[.int .u64 0, .int .i64 0, .int .i64 10]) (by simp [results, Tryd.results29, go_sem]) rfl ⟨⟨0, 0, 10, rfl, H.out.symm, fun h => by cases h⟩, HK.out.top 1⟩
      · clear HC
        have hw2 : IntKind.i64.wrap ((a : Int) + 2) = ((a + 2 : Nat) : Int) := wr 2 (by omega)
        obtain ⟨a2, ha2⟩ : ∃ a2, a2 = a + 2 := ⟨_, rfl⟩
        rw [← ha2] at hw2 hG
        have HA2 := Lib.hid ha2
        clear ha2
        have f1 : IntKind.i64.wrap (X : Int) = (X : Int) := by rw [IntKind.wrap_i64]; omega
        have hg := refGet_any A c l m (a2 : Int) (X : Int) w2 (HK.out.bs 0) (by omega) (by omega) (by have := HA2.out; omega) (by omega)
        rw [hG] at hg
        have HG := Lib.hid hg
        have HC := Lib.hid hc
        clear hg hG hc
        go_wp2_with fail
        refine HG.out.mono ?_
        rintro e w3 ⟨rfl, b1⟩
        replace HK := Lib.hid (HK.out.go b1)
        clear b1 HG u0 u1 u2 u3 v0 v1
        obtain ⟨⟨u0, u1, u2, u3⟩, -⟩ := (HK.out.blk 3).quad
        obtain ⟨⟨v0, v1⟩, -⟩ := (HK.out.blk 2).duo
        rcases HC.out with ⟨rfl, h2⟩ | ⟨rfl, h2, h3⟩
        · have H := Lib.hid h2
          clear h2 HC
          go_wp2_with fail
          refine bodyPost_ret (v := .tuple #[.int .u64 0, .int .i64 0, .int .i64 10]) (by simp [results, Tryd.results29, go_sem]) rfl ⟨⟨0, 0, 10, rfl, H.out.symm, fun h => by cases h⟩, HK.out.top 1⟩
        · have hsh := shl_lt (g := d1) (W := X) (L := L) h2 (by omega)
          obtain ⟨s0, hs0⟩ : ∃ s0 : Nat, s0 = 64 - L - X := ⟨_, rfl⟩
          rw [← hs0] at hsh h3
          have j4 : min s0 64 = s0 := by omega
          obtain ⟨dd, hdd⟩ : ∃ dd : Nat, dd = d1 * 2 ^ s0 := ⟨_, rfl⟩
          rw [← hdd] at hsh h3
          have f2 : IntKind.u64.wrap ((d1 : Int) * 2 ^ s0) = (dd : Int) := by
            have e : ((d1 : Int) * 2 ^ s0) = (dd : Int) := by rw [hdd]; simp
            rw [e, IntKind.wrap_u64]; omega
          have f3 : IntKind.i64.wrap (L : Int) = (L : Int) := by rw [IntKind.wrap_i64]; omega
          obtain ⟨s2, hs2⟩ : ∃ s2 : Nat, s2 = 64 - L := ⟨_, rfl⟩
          have f4 : IntKind.i64.wrap ((64 : Int) - L) = (s2 : Int) := by rw [IntKind.wrap_i64]; omega
          have f5 : IntKind.i64.wrap ((s2 : Int) - X) = (s0 : Int) := by rw [IntKind.wrap_i64]; omega
          have f6 : IntKind.u64.wrap (s0 : Int) = (s0 : Int) := by rw [IntKind.wrap_u64]; omega
          obtain ⟨n13, hn13⟩ : ∃ n13 : Nat, n13 = 2 + X := ⟨_, rfl⟩
          have f7 : IntKind.i64.wrap ((2 : Int) + X) = (n13 : Int) := by rw [IntKind.wrap_i64]; omega
          rw [← hn13] at h3
          have hx : bits .xor .u64 (p : Int) (dd : Int) = ((dd ^^^ p : Nat) : Int) := by rw [xor_int p dd hp hsh, Nat.xor_comm]
          obtain ⟨vv, hvv⟩ : ∃ vv, vv = dd ^^^ p := ⟨_, rfl⟩
          rw [← hvv] at hx
          have Hvv := Lib.hid hvv
          have Hsh := Lib.hid hsh
          clear hvv hsh
          have H3 := Lib.hid h3
          clear h2 h3 HC hs0 hdd hs2 hn13
          go_wp2_with fail
          have hpc := plus_cell w3
          refine wp_region_tail_ext 19 (by kernel_rfl) (by kernel_rfl) ?_
          simp only [List.take_succ_cons, List.take_zero, List.drop_succ_cons, List.drop_zero]
          repeat (go_big_quiet_step (fail))
          refine wpQuiet_nil ?_
          rintro w5 ⟨z, rfl⟩
          replace HK := Lib.hid (HK.out.go (plus_below w3 z))
          clear hpc
          go_wp2_with fail
          refine bodyPost_ret (v := .tuple #[.int .u64 vv, .int .i64 n13, .int .i64 0]) (by simp [results, Tryd.results29, go_sem]) rfl ⟨⟨vv, n13, 0, rfl, by rw [H3.out], fun _ => by rw [H3.out]; exact ⟨Hvv.out, rfl⟩⟩, HK.out.top 1⟩
      · clear HC
        have hw2 : IntKind.i64.wrap ((a : Int) + 2) = ((a + 2 : Nat) : Int) := wr 2 (by omega)
        obtain ⟨a2, ha2⟩ : ∃ a2, a2 = a + 2 := ⟨_, rfl⟩
        rw [← ha2] at hw2 hG
        have HA2 := Lib.hid ha2
        clear ha2
        have hg := refGet_any A c l m (a2 : Int) 5 w2 (HK.out.bs 0) (by omega) (by omega) (by have := HA2.out; omega) (by omega)
        rw [hG] at hg
        have HG := Lib.hid hg
        have HC := Lib.hid hc
        clear hg hG hc
        go_wp2_with fail
        refine HG.out.mono ?_
        rintro e w3 ⟨rfl, b1⟩
        replace HK := Lib.hid (HK.out.go b1)
        clear b1 HG u0 u1 u2 u3 v0 v1
        obtain ⟨⟨u0, u1, u2, u3⟩, -⟩ := (HK.out.blk 3).quad
        obtain ⟨⟨v0, v1⟩, -⟩ := (HK.out.blk 2).duo
        rcases HC.out with ⟨rfl, h2⟩ | ⟨rfl, x32, h3, y1, y2, hG, hc⟩
        · have H := Lib.hid h2
          clear h2 HC
          go_wp2_with fail
          refine bodyPost_ret (v := .tuple #[.int .u64 0, .int .i64 0, .int .i64 10]) (by simp [results, Tryd.results29, go_sem]) rfl ⟨⟨0, 0, 10, rfl, H.out.symm, fun h => by cases h⟩, HK.out.top 1⟩
        · clear HC
          have hw7 : IntKind.i64.wrap ((a : Int) + 7) = ((a + 7 : Nat) : Int) := wr 7 (by omega)
          obtain ⟨a7, ha7⟩ : ∃ a7, a7 = a + 7 := ⟨_, rfl⟩
          rw [← ha7] at hw7 hG
          have HA7 := Lib.hid ha7
          clear ha7
          have hg := refGet_any A c l m (a7 : Int) 6 w3 (HK.out.bs 0) (by omega) (by omega) (by have := HA7.out; omega) (by omega)
          rw [hG] at hg
          have HG := Lib.hid hg
          have HC := Lib.hid hc
          clear hg hG hc
          go_wp2_with fail
          refine HG.out.mono ?_
          rintro e w4 ⟨rfl, b1⟩
          replace HK := Lib.hid (HK.out.go b1)
          clear b1 HG u0 u1 u2 u3 v0 v1
          obtain ⟨⟨u0, u1, u2, u3⟩, -⟩ := (HK.out.blk 3).quad
          obtain ⟨⟨v0, v1⟩, -⟩ := (HK.out.blk 2).duo
          rcases HC.out with ⟨rfl, h2⟩ | ⟨rfl, h2, h3, hc⟩
          · have H := Lib.hid h2
            clear h2 HC
            go_wp2_with fail
            refine bodyPost_ret (v := .tuple #[.int .u64 0, .int .i64 0, .int .i64 10]) (by simp [results, Tryd.results29, go_sem]) rfl ⟨⟨0, 0, 10, rfl, H.out.symm, fun h => by cases h⟩, HK.out.top 1⟩
          · clear HC
            obtain ⟨yy, hyy⟩ : ∃ yy, yy = y1 + 1 := ⟨_, rfl⟩
            rw [← hyy] at hc
            have f6 : IntKind.i64.wrap (y1 : Int) = (y1 : Int) := by rw [IntKind.wrap_i64]; omega
            have f7 : IntKind.i64.wrap ((y1 : Int) + 1) = (yy : Int) := by rw [IntKind.wrap_i64]; omega
            have f8 : IntKind.i64.wrap (x1 : Int) = (x1 : Int) := by rw [IntKind.wrap_i64]; omega
            obtain ⟨xy, hxy⟩ : ∃ xy, xy = x1 + yy := ⟨_, rfl⟩
            have f9 : IntKind.i64.wrap ((x1 : Int) + yy) = (xy : Int) := by rw [IntKind.wrap_i64]; omega
            rw [← hxy] at hc
            rcases hc with ⟨h64, hv⟩ | ⟨h64, n1, n2, hG, hc⟩
            · have H := Lib.hid hv
              have h65 : (64 : Int) < xy := by omega
              clear hv hyy hxy
              go_wp2_with fail
              refine bodyPost_ret (v := .tuple #[.int .u64 0, .int .i64 0, .int .i64 30]) (by simp [results, Tryd.results29, go_sem]) rfl ⟨⟨0, 0, 30, rfl, H.out.symm, fun h => by cases h⟩, HK.out.top 1⟩
            · have hw13 : IntKind.i64.wrap ((a : Int) + 13) = ((a + 13 : Nat) : Int) := wr 13 (by omega)
              obtain ⟨a13, ha13⟩ : ∃ a13, a13 = a + 13 := ⟨_, rfl⟩
              rw [← ha13] at hw13 hG
              have hy64 : yy ≤ 64 := by omega
              have h65 : ¬ (64 : Int) < xy := by omega
              rw [hxy] at h64
              clear hxy hyy
              have HA13 := Lib.hid ha13
              clear ha13
              have hg := refGet_any A c l m (a13 : Int) (yy : Int) w4 (HK.out.bs 0) (by omega) (by omega) (by have := HA13.out; omega) (by omega)
              rw [hG] at hg
              have HG := Lib.hid hg
              have HC := Lib.hid hc
              clear hg hG hc
              go_wp2_with fail
              refine HG.out.mono ?_
              rintro e w5 ⟨rfl, b1⟩
              replace HK := Lib.hid (HK.out.go b1)
              clear b1 HG u0 u1 u2 u3 v0 v1
              obtain ⟨⟨u0, u1, u2, u3⟩, -⟩ := (HK.out.blk 3).quad
              obtain ⟨⟨v0, v1⟩, -⟩ := (HK.out.blk 2).duo
              rcases HC.out with ⟨rfl, h2⟩ | ⟨rfl, h2, h3⟩
              · have H := Lib.hid h2
                clear h2 HC
                go_wp2_with fail
                refine bodyPost_ret (v := .tuple #[.int .u64 0, .int .i64 0, .int .i64 10]) (by simp [results, Tryd.results29, go_sem]) rfl ⟨⟨0, 0, 10, rfl, H.out.symm, fun h => by cases h⟩, HK.out.top 1⟩
              · have hsh := shl_lt (g := n1) (W := yy) (L := x1) h2 (by omega)
                obtain ⟨s0, hs0⟩ : ∃ s0 : Nat, s0 = 64 - x1 - yy := ⟨_, rfl⟩
                rw [← hs0] at hsh h3
                have hs1 : (64 : Int) - x1 - yy = s0 := by omega
                have j4 : min s0 64 = s0 := by omega
                obtain ⟨dd, hdd⟩ : ∃ dd : Nat, dd = n1 * 2 ^ s0 := ⟨_, rfl⟩
                rw [← hdd] at hsh h3
                have f1 : IntKind.u64.wrap ((n1 : Int) * 2 ^ s0) = (dd : Int) := by
                  have e : ((n1 : Int) * 2 ^ s0) = (dd : Int) := by rw [hdd]; simp
                  rw [e, IntKind.wrap_u64]; omega
                obtain ⟨s2, hs2⟩ : ∃ s2 : Nat, s2 = 64 - x1 := ⟨_, rfl⟩
                have f2 : IntKind.i64.wrap ((64 : Int) - x1) = (s2 : Int) := by rw [IntKind.wrap_i64]; omega
                have f3 : IntKind.i64.wrap ((s2 : Int) - yy) = (s0 : Int) := by rw [IntKind.wrap_i64]; omega
                have f4 : IntKind.u64.wrap (s0 : Int) = (s0 : Int) := by rw [IntKind.wrap_u64]; omega
                obtain ⟨n13, hn13⟩ : ∃ n13 : Nat, n13 = 13 + yy := ⟨_, rfl⟩
                have f5 : IntKind.i64.wrap ((13 : Int) + yy) = (n13 : Int) := by rw [IntKind.wrap_i64]; omega
                rw [← hn13] at h3
                have hx : bits .xor .u64 (p : Int) (dd : Int) = ((dd ^^^ p : Nat) : Int) := by rw [xor_int p dd hp hsh, Nat.xor_comm]
                obtain ⟨vv, hvv⟩ : ∃ vv, vv = dd ^^^ p := ⟨_, rfl⟩
                rw [← hvv] at hx
                have Hvv := Lib.hid hvv
                have Hsh := Lib.hid hsh
                clear hvv hsh
                have H3 := Lib.hid h3
                clear h2 h3 HC hs0 hs1 hdd hs2 hn13
                go_wp2_with fail
                refine bodyPost_ret (v := .tuple #[.int .u64 vv, .int .i64 n13, .int .i64 0]) (by simp [results, Tryd.results29, go_sem]) rfl ⟨⟨vv, n13, 0, rfl, by rw [H3.out], fun _ => by rw [H3.out]; exact ⟨Hvv.out, rfl⟩⟩, HK.out.top 1⟩

end Go.Proofs.YtfooggamdbdniaaDoor

