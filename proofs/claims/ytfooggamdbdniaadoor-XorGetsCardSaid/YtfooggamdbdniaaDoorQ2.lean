/- Joined: Frt, MathC, MathL, MathJ, MathX, Xr1, Xr2, App, Ref1, Ref4, Ref6, Ref3, Ref8, Xr3, Xr4, AppR, Xr5, Xr8. -/
import Derived.Test.YtfooggamdbdniaaDoorQ1
import Derived.Lib.TrailingZeros
import Derived.Lib.BitFns
import Derived.Lib.ItoaNum
import Derived.Outline
import Derived.Deep.DeepCutAuto
set_option linter.unusedSimpArgs false
set_option linter.unusedVariables false
/-
  A region that draws its order: a head in which operations may make memory (Frs), behind it a tail in one forced order that may do whatever it likes (stores above all).
-/
namespace Go.Proofs.YtfooggamdbdniaaDoor
open Go.RowKit

section
variable {P : Program} {md : Region.Mode} {ops : Array Oper} (ch : List (Option Nat)) (sp : List Nat) (RR : Nat → Value → World → Prop) (w : World)

def headF (P : Program) (md : Region.Mode) (ops : Array Oper) (n : Nat) (L : Array Bool → (Nat → World) → Act → Prop) : Nat → Array Bool → (Nat → World) → Act → Prop
  | 0, seen, E, a => L seen E a
  | f + 1, seen, E, a => Region.ready md ops seen ≠ [] ∧ ∀ i ∈ Region.ready md ops seen, i < n ∧ fOp ch sp RR w P ops i E (headF P md ops n L f (seen.setIfInBounds i true)) a
variable {ch sp RR w}

theorem closed_of {n : Nat} {seen : Array Bool} (h : HeadInv md ops n seen) : Closed md ops seen := ⟨h.size, h.closed⟩

theorem headF_first {n i : Nat} {oi : Oper} {L : Array Bool → (Nat → World) → Act → Prop} (hi : ops[i]? = some oi) (hsel : ∀ (j : Nat) (o : Oper) cs b, ops[j]? = some o → o.op ≠ .select cs b) (hB : freshB md ops ch sp = true)
    (hs : Region.sinkB md ops n = true) (hc : Region.chainB md ops n = true) (hn : n < ops.size) (hin : i < n)
    (hdone : ∀ seen E a, L seen E a → ∀ j ∈ Region.ready md ops seen, n ≤ j) (f : Nat) :
    ∀ (seen : Array Bool) (E : Nat → World) (a : Act), HeadInv md ops n seen →
      (∀ j oj, ops[j]? = some oj → j ≠ i → seen.getD j true = false → (∀ e ∈ oj.after, Region.binds md e = true → e.on ≠ i) → oi.apart ops oj = true) →
      i ∈ Region.ready md ops seen → Shows ch sp RR w P ops i oi E a (fun E' v => headF ch sp RR w P md ops n L f (seen.setIfInBounds i true) E' (a.put oi.dst v)) →
      headF ch sp RR w P md ops n L (f + 1) seen E a := by
  have some_of : ∀ {E a} {G : (Nat → World) → Value → Prop}, Shows ch sp RR w P ops i oi E a G → ∃ E' v, G E' v := by
    rintro E a G (⟨_, _, _, ⟨v, z, h1, h2⟩, h⟩ | ⟨_, _, v, _, h⟩ | ⟨_, h⟩)
    · exact ⟨_, _, h v z h1 h2⟩
    · exact ⟨_, _, h⟩
    · exact ⟨_, _, h⟩
  have shows_mono : ∀ {E a} {G G' : (Nat → World) → Value → Prop}, (∀ E v, G E v → G' E v) → Shows ch sp RR w P ops i oi E a G → Shows ch sp RR w P ops i oi E a G' := by
    rintro E a G G' hg (⟨h1, h2, h3, h4, h⟩ | ⟨h1, h2, v, h3, h⟩ | ⟨h1, h⟩)
    · exact .inl ⟨h1, h2, h3, h4, fun v z x y => hg _ _ (h v z x y)⟩
    · exact .inr (.inl ⟨h1, h2, v, h3, hg _ _ h⟩)
    · exact .inr (.inr ⟨h1, hg _ _ h⟩)
  induction f with
  | zero =>
    intro seen E a inv _ hr H
    have hun := (mem_ready.1 hr).1
    refine ⟨fun h => (by rw [h] at hr; cases hr), fun j hj => ?_⟩
    have hjn : j < n := by
      apply Classical.byContradiction
      intro h
      exact tail_waits hs hc hn inv _ i rfl hin hun j (by omega) hj
    refine ⟨hjn, ?_⟩
    by_cases hji : j = i
    · subst hji; rw [shows_iff hi]; exact H
    · obtain ⟨E', v, h⟩ := some_of H
      have := hdone _ _ _ h j (ready_mono hj hji)
      omega
  | succ f ih =>
    intro seen E a inv hfree hr H
    have hiun := (mem_ready.1 hr).1
    refine ⟨fun h => (by rw [h] at hr; cases hr), fun j hj => ?_⟩
    have hjn : j < n := by
      apply Classical.byContradiction
      intro h
      exact tail_waits hs hc hn inv _ i rfl hin hiun j (by omega) hj
    refine ⟨hjn, ?_⟩
    by_cases hji : j = i
    · subst hji; rw [shows_iff hi]; exact H
    · obtain ⟨hjun, oj, hoj, hall⟩ := mem_ready.1 hj
      have hnot : ∀ e ∈ oj.after, Region.binds md e = true → e.on ≠ i := fun e he hb heq => by
        have h1 := hall e he hb
        rw [heq, getD_both hiun] at h1
        cases h1
      have H2 := shows_mono (fun E' v h => (h.2 j (ready_mono hj hji)).2) H
      have h2 := fOp_put hoj (hfree j oj hoj hji hjun hnot) hji (fresh_ch hB (closed_of inv) hr hjun) (fresh_ch hB (closed_of inv) hj hiun) (fun cs b => hsel i oi cs b hi) (fun cs b => hsel j oj cs b hoj) (fun hs => fresh_calm hB hoj hs) H2
      have hfree' : ∀ k ok, ops[k]? = some ok → k ≠ i → (seen.setIfInBounds j true).getD k true = false →
          (∀ e ∈ ok.after, Region.binds md e = true → e.on ≠ i) → oi.apart ops ok = true := fun k ok hk hki hun hno => by
        refine hfree k ok hk hki ?_ hno
        by_cases hjk : j = k
        · subst hjk; exact hjun
        · rw [getD_set_ne true hjk] at hun; exact hun
      refine fOp_mono (fun E' a' h3 => ih (seen.setIfInBounds j true) E' a' (inv.set hj hjn) hfree' (ready_mono hr (Ne.symm hji)) ?_) h2
      rw [Array.setIfInBounds_comm _ _ hji]
      exact h3

theorem headF_lex {n g : Nat} {Lq : (Nat → World) → Act → Prop} (hsel : Region.noSelect ops = true) (hB : freshB md ops ch sp = true) (hs : Region.sinkB md ops n = true) (hc : Region.chainB md ops n = true) (hn : n < ops.size) (l : List Oper) :
    ∀ (k : Nat) (seen : Array Bool) (E : Nat → World) (a : Act), (∀ j, j < l.length → l[j]? = ops[k + j]?) → k + l.length = n → HeadInv md ops n seen →
    Region.lexHead md ops g l.length k seen = true → walkF ch sp RR w P ops Lq l k E a →
    headF ch sp RR w P md ops n (fun seen' E' a' => Region.seqB md ops g n seen' = true ∧ Lq E' a') l.length seen E a := by
  induction l with
  | nil =>
    intro k seen E a _ hk _ hL h
    have : k = n := by simpa using hk
    subst this
    exact ⟨by simpa [Region.lexHead] using hL, h⟩
  | cons o l ih =>
    intro k seen E a hl hk inv hL h
    have h0 : ops[k]? = some o := by simpa using (hl 0 (by simp)).symm
    simp only [List.length_cons, Region.lexHead, Bool.and_eq_true] at hL
    obtain ⟨⟨hr, hf⟩, hL'⟩ := hL
    have hkn : k < n := by simp only [List.length_cons] at hk; omega
    have hr' : k ∈ Region.ready md ops seen := by simpa using hr
    have hst : fOp ch sp RR w P ops k E (walkF ch sp RR w P ops Lq l (k + 1)) a := by unfold fOp; simp only [h0]; exact h
    refine headF_first h0 (Region.noSelect_spec hsel) hB hs hc hn hkn (fun seen' E' a' hL => seqB_ready hL.1) l.length seen E a inv (Region.free_spec h0 hf) hr' ?_
    rw [shows_iff h0] at hst
    have ihh := fun (E' : Nat → World) (v : Value) => ih (k + 1) (seen.setIfInBounds k true) E' (a.put o.dst v) (fun j hj => by have := hl (j + 1) (by simp; omega); simpa [Nat.add_assoc, Nat.add_comm 1 j] using this) (by simp only [List.length_cons] at hk; omega) (inv.set hr' hkn) hL'
    rcases hst with ⟨h1, h2, h3, h4, h⟩ | ⟨h1, h2, v, h3, h⟩ | ⟨h1, h⟩
    · exact .inl ⟨h1, h2, h3, h4, fun v z x y => ihh _ _ (h v z x y)⟩
    · exact .inr (.inl ⟨h1, h2, v, h3, ihh _ _ h⟩)
    · exact .inr (.inr ⟨h1, ihh _ _ h⟩)

theorem wpAny_of_headF {n g : Nat} {L : Array Bool → (Nat → World) → Act → Prop} {Q' : Exit → Act → World → Prop} (hB : freshB md ops ch sp = true) (hL : ∀ seen E a w', Gr w w' → (∀ i, Gr (E i) w') → L seen E a → wpAny P md ops Q' g seen a w') :
    ∀ (f : Nat) (seen : Array Bool) (E : Nat → World) (a : Act) (w' : World), Gr w w' → (∀ i, Gr (E i) w') → headF ch sp RR w P md ops n L f seen E a → wpAny P md ops Q' (f + g) seen a w'
  | 0, seen, E, a, w', h0, hE, h => by rw [Nat.zero_add]; exact hL _ _ _ _ h0 hE h
  | f + 1, seen, E, a, w', h0, hE, h => by
    rw [show f + 1 + g = (f + g) + 1 by omega]
    refine ⟨fun hr => absurd hr h.1, fun k hk => ?_⟩
    have hk' := (h.2 k hk).2
    have ih := fun E' a' w'' (x : Gr w w'') (y : ∀ i, Gr (E' i) w'') => wpAny_of_headF (n := n) (Q' := Q') hB hL f (seen.setIfInBounds k true) E' a' w'' x y
    have hcls : cls (from_ ch w E k) w' := by
      unfold from_
      split
      · exact below_plus h0
      · exact below_plus (hE _)
    obtain ⟨_, o, ho, _⟩ := mem_ready.1 hk
    unfold fOp at hk'
    unfold wpOp
    simp only [ho] at hk' ⊢
    split
    · rename_i hw
      simp only [hw, if_true] at hk'
      refine .inl ?_
      by_cases hs : sp.contains k = true
      · rw [if_pos hs] at hk'
        obtain ⟨hg, hn⟩ := hk'
        have hg := hg w' hcls
        have hfb : Gr (from_ ch w E k) w' := by
          unfold from_
          split
          · exact h0
          · exact hE _
        have fin : ∀ v z, Below w'.heap.size w' z → RR k v z → wpAny P md ops Q' (f + g) (seen.setIfInBounds k true) (a.put o.dst v) z := fun v z hb hr => by
          have hg : Gr w' z := hb
          refine ih _ _ z (h0.trans hg) (fun i => ?_) (hn v z hr (hfb.trans hg))
          unfold upd
          split
          · exact Below.refl _ _
          · exact (hE i).trans hg
        unfold growUpon at hg
        unfold Oper.wp
        generalize (execOp a.eval o).run P w' = r at *
        split at hg
        · exact fin _ _ hg.1 hg.2
        · obtain ⟨rfl, hcall⟩ := hg
          refine hcall.mono fun e w'' ⟨v, he, hb, hr⟩ => ?_
          subst he
          exact fin v w'' hb hr
        · exact hg.elim
      · rw [if_neg hs] at hk'
        obtain ⟨v, hq, hn⟩ := hk'
        have hq := hq w' hcls
        have hcalm := fresh_calm hB ho (by simpa using hs)
        unfold Oper.quietAt at hq
        unfold Oper.wp
        have hne := calm_spec P w'
        cases hr : (execOp a.eval o).run P w' with
        | halt h w'' => rw [hr] at hq; simp [Oper.quietUpon] at hq
        | ok n w'' =>
          rw [hr] at hq
          cases n with
          | value x =>
            obtain ⟨rfl, rfl⟩ := hq
            exact ih _ _ _ h0 hE hn
          | skip =>
            obtain ⟨rfl, rfl⟩ := hq
            exact ih _ _ _ h0 hE hn
          | enter f args => exact absurd hr (hne w'' f args hcalm _)
          | _ => simp [Oper.quietUpon] at hq
    · rename_i hw
      simp only [hw] at hk'
      exact ih _ _ _ h0 hE hk'

/-- one walk of the head serves every order; behind it the tail -/
theorem wp_region_fresh_tail {id : Nat} {Q : Exit → Act → World → Prop} {a : Act} {l : List Oper} (n : Nat) (ch : List (Option Nat)) (sp : List Nat) (RR : Nat → Value → World → Prop) (hm : P.follows .mixedOrders = true) (hL : Region.lexTailB .any l.toArray n = true) (hB : freshB .any l.toArray ch sp = true)
    (h : walkF ch sp RR w P l.toArray (fun E a' => ∀ w', Gr w w' → (∀ i, Gr (E i) w') → wpList P l.toArray Q (l.drop n) a' w') (l.take n) 0 (fun _ => w) a) : (Code.region id l.toArray true).wp P Q a w := by
  simp only [Region.lexTailB, Bool.and_eq_true, decide_eq_true_eq] at hL
  obtain ⟨⟨⟨⟨hsel, hn⟩, hs⟩, hc⟩, hlex⟩ := hL
  have hn' : n < l.length := by simpa using hn
  have htl : (l.take n).length = n := by simp; omega
  have hdl : (l.drop n).length = l.toArray.size - n := by simp
  have inv0 : HeadInv .any l.toArray n (Array.replicate l.toArray.size false) :=
    ⟨by simp, fun j oj _ hl => (by rw [getD_replicate_false] at hl; cases hl), fun t _ ht => getD_in (by simpa using ht) (getD_replicate_false _ _)⟩
  have hgr : Gr w { w with drawn := w.drawn + 1 } := ⟨rfl, rfl, rfl, Nat.le_refl _, fun _ _ => rfl⟩
  have H := headF_lex (P := P) (ch := ch) (sp := sp) (RR := RR) (w := w) (md := .any) (g := l.toArray.size - n) hsel hB hs hc hn (l.take n) 0 _ (fun _ => w) a (fun j hj => by
    have hj' : j < n := by rw [htl] at hj; exact hj
    simp [hj']) (by simpa using htl) inv0 (by rw [htl]; exact hlex) h
  refine wp_region_any hm ?_
  have := wpAny_of_headF (Q' := Q) (g := l.toArray.size - n) hB (fun seen E a' w' h0 hE hL => by
    have h1 := wpAny_of_seq (P := P) (md := .any) (ops := l.toArray) (Q' := Q) (l.drop n) n seen a' w' (fun j => by simp) (by rw [hdl]; exact hL.1) (hL.2 w' h0 hE)
    rwa [hdl] at h1) _ _ _ a { w with drawn := w.drawn + 1 } hgr (fun _ => hgr) H
  rw [htl, show n + (l.toArray.size - n) = l.toArray.size by omega] at this
  exact this
end
end Go.Proofs.YtfooggamdbdniaaDoor

/- Plain mathematics of bit strings: cutting. Imports nothing of the program. -/
namespace Go.Proofs.YtfooggamdbdniaaDoor

/-- byte i of what is cut from bit 8 f + s on -/
def cutByte (l : List UInt8) (f s i : Nat) : Nat := ((l.getD (f + i) 0).toNat * 2 ^ s % 256) ||| ((l.getD (f + i + 1) 0).toNat / 2 ^ (8 - s))

theorem byte_high (x : UInt8) (j : Nat) (h : 8 ≤ j) : x.toNat.testBit j = false :=
  Nat.testBit_lt_two_pow (Nat.lt_of_lt_of_le x.toNat_lt (Nat.pow_le_pow_right (by decide) h : 2 ^ 8 ≤ 2 ^ j))

theorem cutByte_lt (l : List UInt8) (f s i : Nat) : cutByte l f s i < 256 :=
  Nat.or_lt_two_pow (n := 8) (Nat.mod_lt _ (by decide)) (Nat.lt_of_le_of_lt (Nat.div_le_self _ _) (UInt8.toNat_lt _))

theorem cutByte_bit (l : List UInt8) (f s i j : Nat) (hs : s < 8) (hj : j < 8) : (cutByte l f s i).testBit (7 - j) = bt l (8 * (f + i) + s + j) := by
  unfold cutByte
  rw [Nat.testBit_or, show (256 : Nat) = 2 ^ 8 from rfl, Nat.testBit_mod_two_pow, Nat.testBit_mul_two_pow, Nat.testBit_div_two_pow]
  unfold bt
  have h7 : 7 - j < 8 := by omega
  by_cases h : s + j < 8
  · rw [show (8 * (f + i) + s + j) / 8 = f + i by omega, show 7 - (8 * (f + i) + s + j) % 8 = 7 - j - s by omega, byte_high _ (7 - j + (8 - s)) (by omega)]
    have h1 : s ≤ 7 - j := by omega
    simp [h7, h1]
  · rw [show (8 * (f + i) + s + j) / 8 = f + i + 1 by omega, show 7 - (8 * (f + i) + s + j) % 8 = 7 - j + (8 - s) by omega]
    have h1 : ¬ s ≤ 7 - j := by omega
    simp [h1]

/-- b holds the first 8 k bits that are cut from bit a on -/
def CutAt (l : List UInt8) (a N k : Nat) (b : List UInt8) : Prop := b.length = N ∧ ∀ i, bt b i = if i < 8 * k then bt l (a + i) else false

theorem CutAt.zero (l : List UInt8) (a N : Nat) : CutAt l a N 0 (List.replicate N 0) := by
  refine ⟨List.length_replicate, fun i => ?_⟩
  rw [if_neg (by omega)]
  unfold bt
  rw [List.getD_eq_getElem?_getD, List.getElem?_replicate]
  split <;> simp

theorem CutAt.step {l : List UInt8} {a N k : Nat} {b : List UInt8} (h : CutAt l a N k b) (hk : k < N) : CutAt l a N (k + 1) (b.set k (UInt8.ofNat (cutByte l (a / 8) (a % 8) k))) := by
  refine ⟨by rw [List.length_set]; exact h.1, fun i => ?_⟩
  rw [bt_set _ _ _ _ (by rw [h.1]; exact hk)]
  by_cases hi : i / 8 = k
  · rw [if_pos hi, UInt8.toNat_ofNat_of_lt' (cutByte_lt _ _ _ _), cutByte_bit _ _ _ _ _ (by omega) (by omega), if_pos (by omega)]
    congr 1; omega
  · rw [if_neg hi, h.2 i]
    by_cases h2 : i < 8 * k
    · rw [if_pos h2, if_pos (by omega)]
    · rw [if_neg h2, if_neg (by omega)]

/-- the last byte, with u bits -/
def maskByte (x : UInt8) (u : Nat) : Nat := x.toNat &&& (255 * 2 ^ (8 - u) % 256)
theorem maskByte_lt (x : UInt8) (u : Nat) : maskByte x u < 256 := Nat.lt_of_le_of_lt Nat.and_le_left x.toNat_lt
theorem maskByte_bit (x : UInt8) (u j : Nat) (hj : j < 8) : (maskByte x u).testBit (7 - j) = (x.toNat.testBit (7 - j) && decide (j < u)) := by
  unfold maskByte
  rw [Nat.testBit_and, show (256 : Nat) = 2 ^ 8 from rfl, Nat.testBit_mod_two_pow, Nat.testBit_mul_two_pow, show (255 : Nat) = 2 ^ 8 - 1 from rfl, Nat.testBit_two_pow_sub_one]
  congr 1
  by_cases h : j < u
  · have h1 : 8 - u ≤ 7 - j := by omega
    have h2 : 7 - j < 8 := by omega
    have h3 : 7 - j - (8 - u) < 8 := by omega
    simp [h, h1, h2, h3]
  · have h1 : ¬ 8 - u ≤ 7 - j := by omega
    simp [h, h1]

theorem cut_even {l : List UInt8} {a n : Nat} {b : List UInt8} (h : CutAt l a (nb n) (nb n) b) (h8 : n % 8 = 0) : b = pack (cutl l a n) := by
  apply bytes_ext
  · rw [h.1, pack_length, cutl_length]
  · intro i _
    rw [h.2 i, bt_pack, cutl_get, show 8 * nb n = n by unfold nb; omega]

theorem cut_odd {l : List UInt8} {a n : Nat} {b : List UInt8} (h : CutAt l a (nb n) (nb n) b) (h8 : ¬ n % 8 = 0) (x : UInt8) (hx : b[nb n - 1]? = some x) :
    b.set (nb n - 1) (UInt8.ofNat (maskByte x (n % 8))) = pack (cutl l a n) := by
  have hN : 0 < nb n := by unfold nb; omega
  apply bytes_ext
  · rw [List.length_set, h.1, pack_length, cutl_length]
  · intro i hi
    rw [List.length_set, h.1] at hi
    rw [bt_set _ _ _ _ (by rw [h.1]; omega), bt_pack, cutl_get]
    by_cases hl : i / 8 = nb n - 1
    · rw [if_pos hl, UInt8.toNat_ofNat_of_lt' (maskByte_lt _ _), maskByte_bit _ _ _ (by omega)]
      have e : x.toNat.testBit (7 - i % 8) = bt b i := by
        unfold bt; rw [List.getD_eq_getElem?_getD, hl, hx]; rfl
      rw [e, h.2 i, if_pos (by omega)]
      by_cases hn : i < n
      · have h2 : i % 8 < n % 8 := by unfold nb at hl; omega
        rw [if_pos hn]; simp [h2]
      · have h2 : ¬ i % 8 < n % 8 := by unfold nb at hl; omega
        rw [if_neg hn]; simp [h2]
    · rw [if_neg hl, h.2 i]
      have hn : i < n := by unfold nb at hl hi; omega
      rw [if_pos (by unfold nb at hi; unfold nb; omega), if_pos hn]

end Go.Proofs.YtfooggamdbdniaaDoor

/- Plain mathematics of bit strings: laying one behind the other. Imports nothing of the program. -/
namespace Go.Proofs.YtfooggamdbdniaaDoor

theorem bt_or (b : List UInt8) (j y i : Nat) (hj : j < b.length) (hy : y < 256) :
    bt (b.set j (UInt8.ofNat (b[j].toNat ||| y))) i = (bt b i || (decide (i / 8 = j) && y.testBit (7 - i % 8))) := by
  rw [bt_set _ _ _ _ hj]
  by_cases h : i / 8 = j
  · rw [if_pos h, UInt8.toNat_ofNat_of_lt' (Nat.or_lt_two_pow (n := 8) (UInt8.toNat_lt _) hy), Nat.testBit_or]
    have e : b[j].toNat.testBit (7 - i % 8) = bt b i := by
      unfold bt; rw [h, List.getD_eq_getElem?_getD, List.getElem?_eq_getElem hj]; rfl
    rw [e]; simp [h]
  · rw [if_neg h]; simp [h]

/-- what falls into the next byte -/
def lowOf (c : UInt8) (s : Nat) : Nat := c.toNat * 2 ^ (8 - s) % 256
theorem lowOf_lt (c : UInt8) (s : Nat) : lowOf c s < 256 := Nat.mod_lt _ (by decide)
theorem lowOf_bit (c : UInt8) (s j : Nat) (hs : s < 8) (hj : j < 8) : (lowOf c s).testBit (7 - j) = (decide (j < s) && c.toNat.testBit (s - 1 - j)) := by
  unfold lowOf
  rw [show (256 : Nat) = 2 ^ 8 from rfl, Nat.testBit_mod_two_pow, Nat.testBit_mul_two_pow]
  by_cases h : j < s
  · have h1 : 7 - j < 8 := by omega
    have h2 : 8 - s ≤ 7 - j := by omega
    rw [show 7 - j - (8 - s) = s - 1 - j by omega]; simp [h, h1, h2]
  · have h2 : ¬ 8 - s ≤ 7 - j := by omega
    simp [h, h2]
theorem shr_bits (c : UInt8) (s j : Nat) (hj : j < 8) : (c.toNat / 2 ^ s).testBit (7 - j) = (decide (s ≤ j) && c.toNat.testBit (7 - j + s)) := by
  rw [Nat.testBit_div_two_pow]
  by_cases h : s ≤ j
  · simp [h]
  · rw [byte_high c (7 - j + s) (by omega)]; simp

theorem lay_byte (x : List UInt8) (c : UInt8) (a k i : Nat) (hx : x[k]? = some c) :
    ((decide (i / 8 = a / 8 + k) && (c.toNat / 2 ^ (a % 8)).testBit (7 - i % 8)) || (decide (i / 8 = a / 8 + k + 1) && (lowOf c (a % 8)).testBit (7 - i % 8))) = (decide (a + 8 * k ≤ i ∧ i < a + 8 * k + 8) && bt x (i - a)) := by
  rw [shr_bits _ _ _ (by omega), lowOf_bit _ _ _ (by omega) (by omega)]
  by_cases h : a + 8 * k ≤ i ∧ i < a + 8 * k + 8
  · have e : bt x (i - a) = c.toNat.testBit (7 - (i - a) % 8) := by
      unfold bt; rw [show (i - a) / 8 = k by omega, List.getD_eq_getElem?_getD, hx]; rfl
    rw [e]
    by_cases h1 : i / 8 = a / 8 + k
    · have h2 : ¬ i / 8 = a / 8 + k + 1 := by omega
      have h3 : a % 8 ≤ i % 8 := by omega
      rw [show 7 - (i - a) % 8 = 7 - i % 8 + a % 8 by omega]
      simp [h, h1, h2, h3]
    · have h2 : i / 8 = a / 8 + k + 1 := by omega
      have h3 : i % 8 < a % 8 := by omega
      rw [show 7 - (i - a) % 8 = a % 8 - 1 - i % 8 by omega]
      simp [h, h1, h2, h3]
  · have e1 : (decide (i / 8 = a / 8 + k) && (decide (a % 8 ≤ i % 8) && c.toNat.testBit (7 - i % 8 + a % 8))) = false := by
      by_cases h1 : i / 8 = a / 8 + k
      · have h2 : ¬ a % 8 ≤ i % 8 := by omega
        simp [h2]
      · simp [h1]
    have e2 : (decide (i / 8 = a / 8 + k + 1) && (decide (i % 8 < a % 8) && c.toNat.testBit (a % 8 - 1 - i % 8))) = false := by
      by_cases h1 : i / 8 = a / 8 + k + 1
      · have h2 : ¬ i % 8 < a % 8 := by omega
        simp [h2]
      · simp [h1]
    rw [e1, e2]; simp [h]

/-- b is L, with the first k bytes of x laid from bit a on -/
def LayAt (L x : List UInt8) (a k : Nat) (b : List UInt8) : Prop := b.length = L.length ∧ ∀ i, bt b i = (bt L i || (decide (a ≤ i ∧ i < a + 8 * k) && bt x (i - a)))

theorem LayAt.zero (L x : List UInt8) (a : Nat) : LayAt L x a 0 L := ⟨rfl, fun i => by
  have e : decide (a ≤ i ∧ i < a + 8 * 0) = false := decide_eq_false (by omega)
  rw [e]; simp⟩

theorem lay_join (P Q R : Prop) [Decidable P] [Decidable Q] [Decidable R] (u t : Bool) (h : R ↔ P ∨ Q) (_ : ¬ (P ∧ Q)) : (u || (decide R && t)) = ((u || (decide P && t)) || (decide Q && t)) := by
  by_cases hp : P <;> by_cases hq : Q <;> simp [h, hp, hq]

/-- the next byte leaves nothing over -/
theorem LayAt.step1 {L x b : List UInt8} {a k : Nat} {c : UInt8} (h : LayAt L x a k b) (hx : x[k]? = some c) (hj : a / 8 + k < b.length) (h0 : lowOf c (a % 8) = 0) :
    LayAt L x a (k + 1) (b.set (a / 8 + k) (UInt8.ofNat (b[a / 8 + k].toNat ||| c.toNat / 2 ^ (a % 8)))) := by
  refine ⟨by rw [List.length_set]; exact h.1, fun i => ?_⟩
  have hb := lay_byte x c a k i hx
  rw [h0] at hb
  simp only [Nat.zero_testBit, Bool.and_false, Bool.or_false] at hb
  rw [bt_or _ _ _ _ hj (Nat.lt_of_le_of_lt (Nat.div_le_self _ _) c.toNat_lt), h.2 i, hb]
  exact (lay_join _ _ _ _ _ (by omega) (by omega)).symm

/-- .. something over -/
theorem LayAt.step2 {L x b : List UInt8} {a k : Nat} {c : UInt8} (h : LayAt L x a k b) (hx : x[k]? = some c) (hj : a / 8 + k < b.length) (hj2 : a / 8 + k + 1 < b.length) :
    LayAt L x a (k + 1) ((b.set (a / 8 + k) (UInt8.ofNat (b[a / 8 + k].toNat ||| c.toNat / 2 ^ (a % 8)))).set (a / 8 + k + 1) (UInt8.ofNat (b[a / 8 + k + 1].toNat ||| lowOf c (a % 8)))) := by
  refine ⟨by rw [List.length_set, List.length_set]; exact h.1, fun i => ?_⟩
  have hb := lay_byte x c a k i hx
  have h2 := bt_or (b.set (a / 8 + k) (UInt8.ofNat (b[a / 8 + k].toNat ||| c.toNat / 2 ^ (a % 8)))) (a / 8 + k + 1) (lowOf c (a % 8)) i (by rw [List.length_set]; exact hj2) (lowOf_lt _ _)
  rw [List.getElem_set_ne (by omega)] at h2
  rw [h2, bt_or _ _ _ _ hj (Nat.lt_of_le_of_lt (Nat.div_le_self _ _) c.toNat_lt), Bool.or_assoc, hb, h.2 i]
  exact (lay_join _ _ _ _ _ (by omega) (by omega)).symm

/-- what is over lies within, if all bits of x have room -/
theorem lay_room {x : List UInt8} {c : UInt8} {a k n M : Nat} (hx : x[k]? = some c) (hz : ∀ i, n ≤ i → bt x i = false) (hM : a + n ≤ 8 * M) (h0 : lowOf c (a % 8) ≠ 0) : a / 8 + k + 1 < M := by
  apply Classical.byContradiction
  intro hge
  apply h0
  apply Nat.eq_of_testBit_eq
  intro j
  rw [Nat.zero_testBit]
  by_cases hj : j < 8
  · rw [show j = 7 - (7 - j) by omega, lowOf_bit _ _ _ (by omega) (by omega)]
    by_cases hs : 7 - j < a % 8
    · have e : c.toNat.testBit (a % 8 - 1 - (7 - j)) = bt x (8 * k + 8 - a % 8 + (7 - j)) := by
        unfold bt
        rw [show (8 * k + 8 - a % 8 + (7 - j)) / 8 = k by omega, show 7 - (8 * k + 8 - a % 8 + (7 - j)) % 8 = a % 8 - 1 - (7 - j) by omega, List.getD_eq_getElem?_getD, hx]; rfl
      rw [e, hz _ (by omega)]; simp
    · simp [hs]
  · exact Nat.testBit_lt_two_pow (Nat.lt_of_lt_of_le (lowOf_lt _ _) (Nat.pow_le_pow_right (by decide) (show 8 ≤ j by omega) : 2 ^ 8 ≤ 2 ^ j))

end Go.Proofs.YtfooggamdbdniaaDoor

/- Plain mathematics of bit strings: many of them, one behind the other. Imports nothing of the program. -/
namespace Go.Proofs.YtfooggamdbdniaaDoor

/-- all bits of many, one behind the other: bytes and counts -/
def catE (E : List (List UInt8 × Int)) : List Bool := E.flatMap fun e => bitl e.1 e.2.toNat
def soundE (E : List (List UInt8 × Int)) : Bool := E.all fun e => soundB e.1 e.2
theorem catE_nil : catE [] = [] := rfl
theorem catE_snoc (E : List (List UInt8 × Int)) (k : Nat) (h : k < E.length) : catE (E.take (k + 1)) = catE (E.take k) ++ bitl E[k].1 E[k].2.toNat := by
  unfold catE
  rw [List.take_succ_eq_append_getElem h, List.flatMap_append]; simp only [List.flatMap_cons, List.flatMap_nil, List.append_nil]
theorem soundE_get {E : List (List UInt8 × Int)} (h : soundE E = true) (k : Nat) (hk : k < E.length) : soundB E[k].1 E[k].2 = true := by
  unfold soundE at h
  rw [List.all_eq_true] at h
  exact h _ (List.getElem_mem hk)
theorem soundE_first {E : List (List UInt8 × Int)} (h : soundE E = false) : ∃ k, ∃ hk : k < E.length, soundB E[k].1 E[k].2 = false ∧ ∀ j (hj : j < k), soundB (E[j]'(by omega)).1 (E[j]'(by omega)).2 = true := by
  induction E with
  | nil => simp [soundE] at h
  | cons e E ih =>
    by_cases he : soundB e.1 e.2 = true
    · have h2 : soundE E = false := by simpa [soundE, he] using h
      obtain ⟨k, hk, h3, h4⟩ := ih h2
      refine ⟨k + 1, by simp; omega, h3, fun j hj => ?_⟩
      cases j with
      | zero => exact he
      | succ j => exact h4 j (by omega)
    · exact ⟨0, by simp, by simpa using he, fun j hj => by omega⟩
/-- bound on how many bits -/
theorem catE_len (E : List (List UInt8 × Int)) (B : Nat) (hs : soundE E = true) (h : ∀ e ∈ E, e.1.length ≤ B) : (catE E).length ≤ 8 * B * E.length := by
  induction E with
  | nil => simp [catE]
  | cons e E ih =>
    have h1 : soundB e.1 e.2 = true ∧ soundE E = true := by simpa [soundE] using hs
    have h2 := ih h1.2 (fun x hx => h x (List.mem_cons_of_mem _ hx))
    obtain ⟨m, hm, hm8, _⟩ := sound_nat h1.1
    have h3 := h e (List.mem_cons_self ..)
    have e1 : catE (e :: E) = bitl e.1 e.2.toNat ++ catE E := by simp [catE]
    rw [e1, List.length_append, bitl_length, List.length_cons, Nat.mul_add]
    omega
theorem catE_take_len (E : List (List UInt8 × Int)) (k : Nat) (h : k < E.length) : (catE (E.take k)).length + E[k].2.toNat ≤ (catE E).length := by
  have h1 : catE E = catE (E.take k) ++ (bitl E[k].1 E[k].2.toNat ++ catE (E.drop (k + 1))) := by
    conv => lhs; rw [← List.take_append_drop k E, List.drop_eq_getElem_cons h]
    unfold catE
    rw [List.flatMap_append, List.flatMap_cons]
  rw [h1, List.length_append, List.length_append, bitl_length]
  omega

/-- b begins with the bits M; the rest is noughts -/
def Begins (b : List UInt8) (M : List Bool) : Prop := ∀ i, bt b i = M.getD i false
theorem Begins.zero (N : Nat) : Begins (List.replicate N 0) [] := fun i => by
  unfold bt
  rw [List.getD_eq_getElem?_getD, List.getElem?_replicate]
  split <;> simp
theorem Begins.lay {L x L' : List UInt8} {M : List Bool} {n : Nat} (h : Begins L M) (hs : soundB x n = true) (hl : LayAt L x M.length x.length L') : Begins L' (M ++ bitl x n) := fun i => by
  rw [hl.2 i, h i]
  obtain ⟨m, hm, hm8, hnb⟩ := sound_nat hs
  obtain rfl : n = m := by omega
  have hz := ((soundB_iff x n).1 hs).2.2
  rw [List.getD_eq_getElem?_getD, List.getD_eq_getElem?_getD]
  by_cases hi : i < M.length
  · rw [List.getElem?_append_left hi, List.getElem?_eq_getElem hi]
    have : ¬ (M.length ≤ i ∧ i < M.length + 8 * x.length) := by omega
    simp [this]
  · rw [List.getElem?_append_right (by omega), List.getElem?_eq_none (by omega)]
    have e : (bitl x n)[i - M.length]?.getD false = (bitl x n).getD (i - M.length) false := by rw [List.getD_eq_getElem?_getD]
    rw [e, bitl_get]
    by_cases h2 : i < M.length + n
    · rw [if_pos (by omega), decide_eq_true (show M.length ≤ i ∧ i < M.length + 8 * x.length by omega)]; simp
    · rw [if_neg (by omega), hz _ (by omega)]; simp
theorem Begins.pack {b : List UInt8} {M : List Bool} (h : Begins b M) (hl : b.length = nb M.length) : b = pack M := by
  apply bytes_ext
  · rw [hl, pack_length]
  · intro i _
    rw [h i, bt_pack]

/-- what Join answers: bytes, bits, the error -/
def joinSpec (E : List (List UInt8 × Int)) : List UInt8 × Nat × Nat := if soundE E = true then (pack (catE E), (catE E).length, 0) else ([], 0, 11)
theorem joinSpec_code (E : List (List UInt8 × Int)) : (joinSpec E).2.2 ≤ 11 := by
  unfold joinSpec
  split
  · exact Nat.zero_le _
  · exact Nat.le_refl _

end Go.Proofs.YtfooggamdbdniaaDoor

/- Plain mathematics of values of which only the bits that changed are written. -/
namespace Go.Proofs.YtfooggamdbdniaaDoor

/-- what is known -/
structure XV where
  has : Bool
  prev : Nat
  lead : Nat
  width : Nat
def xv0 : XV := ⟨false, 0, 0, 0⟩
def soundX (s : XV) : Bool := if s.has then decide (s.lead ≤ 31 ∧ s.lead + s.width ≤ 64 ∧ (0 < s.width ∨ s.lead = 0)) else decide (s.prev = 0 ∧ s.lead = 0 ∧ s.width = 0)
/-- all ones of d lie behind so many noughts, in so many bits -/
def holdsX (lead width d : Nat) : Bool := decide (d % 2 ^ (64 - lead - width) = 0 ∧ d < 2 ^ (64 - lead))
def leadX (d : Nat) : Nat := min (64 - Lib.bitLen d) 31
def widX (d : Nat) : Nat := 64 - leadX d - Lib.ctz 64 d
/-- how a value is written, what is known then -/
def encX (s : XV) (v : Nat) : List Bool × XV :=
  if s.has = false then (valB v 64, ⟨true, v, 0, 0⟩)
  else if v ^^^ s.prev = 0 then ([false], s)
  else if holdsX s.lead s.width (v ^^^ s.prev) then (true :: false :: valB ((v ^^^ s.prev) / 2 ^ (64 - s.lead - s.width)) s.width, ⟨true, v, s.lead, s.width⟩)
  else (true :: true :: (valB (leadX (v ^^^ s.prev)) 5 ++ valB (widX (v ^^^ s.prev) - 1) 6 ++ valB ((v ^^^ s.prev) / 2 ^ (64 - leadX (v ^^^ s.prev) - widX (v ^^^ s.prev))) (widX (v ^^^ s.prev))), ⟨true, v, leadX (v ^^^ s.prev), widX (v ^^^ s.prev)⟩)

theorem bitLen_two (d : Nat) (h0 : d ≠ 0) (h : d < 2 ^ 64) : 1 ≤ Lib.bitLen d ∧ Lib.bitLen d ≤ 64 ∧ 2 ^ (Lib.bitLen d - 1) ≤ d ∧ d < 2 ^ Lib.bitLen d := by
  have := Lib.bitLenAux_bounds 64 d h h0
  exact ⟨this.1, Lib.bitLen_le d 64 (Nat.le_refl _) h, this.2.1, this.2.2⟩
theorem ctz_two (d : Nat) (h0 : d ≠ 0) (h : d < 2 ^ 64) : ∃ m, d = 2 ^ Lib.ctz 64 d * (2 * m + 1) ∧ Lib.ctz 64 d < 64 := by
  unfold Lib.ctz
  rw [if_neg h0]
  exact Lib.ctzFrom_spec 64 d (by omega) h
theorem ctz_dvd (d : Nat) (h0 : d ≠ 0) (h : d < 2 ^ 64) (k : Nat) : d % 2 ^ k = 0 ↔ k ≤ Lib.ctz 64 d := by
  obtain ⟨m, hm, _⟩ := ctz_two d h0 h
  generalize Lib.ctz 64 d = c at *
  subst hm
  constructor
  · intro hd
    rcases Nat.lt_or_ge c k with hlt | hge
    · exfalso
      have h1 : 2 ^ (c + 1) ∣ 2 ^ c * (2 * m + 1) := Nat.dvd_trans (Nat.pow_dvd_pow 2 hlt) (Nat.dvd_of_mod_eq_zero hd)
      rw [Nat.pow_succ] at h1
      have := Nat.dvd_of_mul_dvd_mul_left (Nat.two_pow_pos c) h1
      omega
    · exact hge
  · intro hk
    exact Nat.mod_eq_zero_of_dvd (Nat.dvd_trans (Nat.pow_dvd_pow 2 hk) (Nat.dvd_mul_right _ _))
theorem bitLen_lt (d : Nat) (h0 : d ≠ 0) (h : d < 2 ^ 64) (k : Nat) : d < 2 ^ k ↔ Lib.bitLen d ≤ k := by
  obtain ⟨h1, h2, h3, h4⟩ := bitLen_two d h0 h
  constructor
  · intro hd
    rcases Nat.lt_or_ge k (Lib.bitLen d) with hlt | hge
    · have := Nat.pow_le_pow_right (show 0 < 2 by decide) (show k ≤ Lib.bitLen d - 1 by omega)
      omega
    · exact hge
  · intro hk
    have := Nat.pow_le_pow_right (show 0 < 2 by decide) hk
    omega
theorem ctz_lt_len (d : Nat) (h0 : d ≠ 0) (h : d < 2 ^ 64) : Lib.ctz 64 d < Lib.bitLen d := by
  obtain ⟨m, hm, hc⟩ := ctz_two d h0 h
  have h4 := (bitLen_two d h0 h).2.2.2
  rcases Nat.lt_or_ge (Lib.ctz 64 d) (Lib.bitLen d) with hlt | hge
  · exact hlt
  · exfalso
    have h5 := Nat.pow_le_pow_right (show 0 < 2 by decide) hge
    have h6 : 2 ^ Lib.ctz 64 d * 1 ≤ 2 ^ Lib.ctz 64 d * (2 * m + 1) := Nat.mul_le_mul_left _ (by omega)
    omega
/-- the band that is written for a difference -/
theorem narrow_facts (d : Nat) (h0 : d ≠ 0) (h : d < 2 ^ 64) : leadX d ≤ 31 ∧ 1 ≤ widX d ∧ leadX d + widX d ≤ 64 ∧ 64 - leadX d - widX d = Lib.ctz 64 d ∧ holdsX (leadX d) (widX d) d = true := by
  have h1 := bitLen_two d h0 h
  have h2 := ctz_lt_len d h0 h
  have hc := (ctz_two d h0 h).choose_spec.2
  have hl : leadX d ≤ 64 - Lib.bitLen d := Nat.min_le_left _ _
  have hl2 : leadX d ≤ 31 := Nat.min_le_right _ _
  have e : 64 - leadX d - widX d = Lib.ctz 64 d := by unfold widX; omega
  refine ⟨hl2, by unfold widX; omega, by unfold widX; omega, e, ?_⟩
  unfold holdsX
  rw [e, decide_eq_true_eq]
  exact ⟨(ctz_dvd d h0 h _).2 (Nat.le_refl _), (bitLen_lt d h0 h _).2 (by omega)⟩
theorem xor_back (v p : Nat) : (v ^^^ p) ^^^ p = v := by rw [Nat.xor_assoc, Nat.xor_self, Nat.xor_zero]
theorem xor_lt64 {v p : Nat} (hv : v < 2 ^ 64) (hp : p < 2 ^ 64) : v ^^^ p < 2 ^ 64 := Nat.xor_lt_two_pow hv hp
theorem xor_zero_iff {v p : Nat} : v ^^^ p = 0 ↔ v = p := by
  constructor
  · intro h
    have := xor_back v p
    rw [h, Nat.zero_xor] at this
    exact this.symm
  · rintro rfl; exact Nat.xor_self _
/-- the part in the band, and back -/
theorem band_back {L W d : Nat} (hLW : L + W ≤ 64) (h : holdsX L W d = true) : d / 2 ^ (64 - L - W) * 2 ^ (64 - L - W) = d ∧ d / 2 ^ (64 - L - W) < 2 ^ W := by
  unfold holdsX at h
  rw [decide_eq_true_eq] at h
  refine ⟨Nat.div_mul_cancel (Nat.dvd_of_mod_eq_zero h.1), ?_⟩
  rw [Nat.div_lt_iff_lt_mul (Nat.two_pow_pos _), ← Nat.pow_add, show W + (64 - L - W) = 64 - L by omega]
  exact h.2
theorem band_holds {L W n : Nat} (hLW : L + W ≤ 64) (h : n < 2 ^ W) : holdsX L W (n * 2 ^ (64 - L - W)) = true ∧ n * 2 ^ (64 - L - W) / 2 ^ (64 - L - W) = n ∧ n * 2 ^ (64 - L - W) < 2 ^ 64 := by
  have h1 : n * 2 ^ (64 - L - W) < 2 ^ (64 - L) := by
    have := Nat.mul_lt_mul_of_pos_right h (Nat.two_pow_pos (64 - L - W))
    rwa [← Nat.pow_add, show W + (64 - L - W) = 64 - L by omega] at this
  refine ⟨?_, Nat.mul_div_cancel _ (Nat.two_pow_pos _), Nat.lt_of_lt_of_le h1 (Nat.pow_le_pow_right (by decide) (by omega))⟩
  unfold holdsX
  rw [decide_eq_true_eq]
  exact ⟨Nat.mul_mod_left _ _, h1⟩

/-- what a front of bits would be: the value, how many bits, what is known then; an error -/
def decX (s : XV) (r : List Bool) : Nat × Nat × XV × Nat :=
  if s.has = false then (if r.length < 64 then (0, 0, xv0, 10) else (numB (r.take 64), 64, ⟨true, numB (r.take 64), 0, 0⟩, 0))
  else match r with
  | [] => (0, 0, xv0, 10)
  | false :: _ => (s.prev, 1, s, 0)
  | [true] => (0, 0, xv0, 10)
  | true :: false :: r =>
    if r.length < s.width then (0, 0, xv0, 10)
    else if numB (r.take s.width) = 0 then (0, 0, xv0, 30)
    else (numB (r.take s.width) * 2 ^ (64 - s.lead - s.width) ^^^ s.prev, 2 + s.width, ⟨true, numB (r.take s.width) * 2 ^ (64 - s.lead - s.width) ^^^ s.prev, s.lead, s.width⟩, 0)
  | true :: true :: r =>
    if r.length < 11 then (0, 0, xv0, 10)
    else if 64 < numB (r.take 5) + (numB ((r.drop 5).take 6) + 1) then (0, 0, xv0, 30)
    else if r.length < 11 + (numB ((r.drop 5).take 6) + 1) then (0, 0, xv0, 10)
    else if holdsX s.lead s.width (numB ((r.drop 11).take (numB ((r.drop 5).take 6) + 1)) * 2 ^ (64 - numB (r.take 5) - (numB ((r.drop 5).take 6) + 1))) = true ∨
        ¬ (leadX (numB ((r.drop 11).take (numB ((r.drop 5).take 6) + 1)) * 2 ^ (64 - numB (r.take 5) - (numB ((r.drop 5).take 6) + 1))) = numB (r.take 5) ∧
           widX (numB ((r.drop 11).take (numB ((r.drop 5).take 6) + 1)) * 2 ^ (64 - numB (r.take 5) - (numB ((r.drop 5).take 6) + 1))) = numB ((r.drop 5).take 6) + 1) then (0, 0, xv0, 30)
    else (numB ((r.drop 11).take (numB ((r.drop 5).take 6) + 1)) * 2 ^ (64 - numB (r.take 5) - (numB ((r.drop 5).take 6) + 1)) ^^^ s.prev, 13 + (numB ((r.drop 5).take 6) + 1),
      ⟨true, numB ((r.drop 11).take (numB ((r.drop 5).take 6) + 1)) * 2 ^ (64 - numB (r.take 5) - (numB ((r.drop 5).take 6) + 1)) ^^^ s.prev, numB (r.take 5), numB ((r.drop 5).take 6) + 1⟩, 0)

theorem enc_sound {s : XV} {v : Nat} (hs : soundX s = true) (hp : s.prev < 2 ^ 64) (hv : v < 2 ^ 64) : soundX (encX s v).2 = true ∧ (encX s v).2.prev = v ∧ (encX s v).2.has = true ∧ (encX s v).2.lead ≤ 31 ∧ (encX s v).2.width ≤ 64 := by
  unfold encX
  split
  · exact ⟨rfl, rfl, rfl, Nat.zero_le _, Nat.zero_le _⟩
  · rename_i hh
    have hh : s.has = true := by simpa using hh
    have hs' := hs
    unfold soundX at hs'
    rw [hh] at hs'
    simp only [if_true, decide_eq_true_eq] at hs'
    split
    · rename_i h0
      exact ⟨hs, (xor_zero_iff.1 h0).symm, hh, hs'.1, by simp only; omega⟩
    · rename_i h0
      split
      · refine ⟨?_, rfl, rfl, hs'.1, by simp only; omega⟩
        unfold soundX
        simp only [if_true, decide_eq_true_eq]
        exact hs'
      · obtain ⟨n1, n2, n3, _⟩ := narrow_facts _ h0 (xor_lt64 hv hp)
        refine ⟨?_, rfl, rfl, n1, by simp only; omega⟩
        unfold soundX
        simp only [if_true, decide_eq_true_eq]
        exact ⟨n1, n3, .inl (by omega)⟩
theorem enc_len {s : XV} {v : Nat} (hs : soundX s = true) (hp : s.prev < 2 ^ 64) (hv : v < 2 ^ 64) : 1 ≤ (encX s v).1.length ∧ (encX s v).1.length ≤ 77 := by
  unfold encX
  split
  · simp [valB_length]
  · rename_i hh
    have hh : s.has = true := by simpa using hh
    unfold soundX at hs
    rw [hh] at hs
    simp only [if_true, decide_eq_true_eq] at hs
    split
    · simp
    · rename_i h0
      obtain ⟨n1, n2, n3, _⟩ := narrow_facts _ h0 (xor_lt64 hv hp)
      split
      · simp [valB_length]; omega
      · simp [valB_length]; omega
theorem enc_same {s : XV} {v : Nat} (hs : soundX s = true) (hp : s.prev < 2 ^ 64) (hv : v < 2 ^ 64) : encX (encX s v).2 v = ([false], (encX s v).2) := by
  obtain ⟨_, h2, h3, _⟩ := enc_sound hs hp hv
  generalize (encX s v).2 = t at *
  unfold encX
  rw [h3, if_neg (by decide), h2, if_pos (Nat.xor_self _)]

theorem take_lt (r : List Bool) (n : Nat) : numB (r.take n) < 2 ^ n := by
  have h := numB_lt (r.take n)
  exact Nat.lt_of_lt_of_le h (Nat.pow_le_pow_right (by decide) (by rw [List.length_take]; exact Nat.min_le_left _ _))
theorem valB_take {r : List Bool} {n : Nat} (h : n ≤ r.length) : valB (numB (r.take n)) n = r.take n := by
  have := valB_numB (r.take n)
  rwa [List.length_take, Nat.min_eq_left h] at this
theorem numB_front (v n : Nat) (r : List Bool) (h : v < 2 ^ n) : numB ((valB v n ++ r).take n) = v := by
  rw [List.take_left' (valB_length v n), numB_valB, Nat.mod_eq_of_lt h]
/-- what is read is written just so -/
theorem dec_only {s : XV} {r : List Bool} {v n : Nat} {t : XV} (hs : soundX s = true) (hp : s.prev < 2 ^ 64) (h : decX s r = (v, n, t, 0)) :
    n ≤ r.length ∧ encX s v = (r.take n, t) ∧ v < 2 ^ 64 ∧ 1 ≤ n ∧ n ≤ 77 := by
  unfold decX at h
  split at h
  · rename_i hh
    split at h
    · simp at h
    · rename_i hl
      simp only [Prod.mk.injEq] at h
      obtain ⟨rfl, rfl, rfl, _⟩ := h
      refine ⟨by omega, ?_, take_lt r 64, by decide, by decide⟩
      unfold encX
      rw [if_pos hh, valB_take (by omega)]
  · rename_i hh
    have hh : s.has = true := by simpa using hh
    have hs' := hs
    unfold soundX at hs'
    rw [hh] at hs'
    simp only [if_true, decide_eq_true_eq] at hs'
    match r, h with
    | [], h => simp at h
    | [true], h => simp at h
    | false :: r, h =>
      simp only [Prod.mk.injEq] at h
      obtain ⟨rfl, rfl, rfl, _⟩ := h
      refine ⟨by simp, ?_, hp, by decide, by decide⟩
      unfold encX
      rw [if_neg (by rw [hh]; decide), if_pos (Nat.xor_self _)]
      rfl
    | true :: false :: r, h =>
      simp only at h
      split at h
      · simp at h
      · rename_i hl
        split at h
        · simp at h
        · rename_i hz
          simp only [Prod.mk.injEq] at h
          obtain ⟨rfl, rfl, rfl, _⟩ := h
          have hlt := take_lt r s.width
          obtain ⟨b1, b2, b3⟩ := band_holds (L := s.lead) (W := s.width) hs'.2.1 hlt
          have hd : (numB (r.take s.width) * 2 ^ (64 - s.lead - s.width) ^^^ s.prev) ^^^ s.prev = numB (r.take s.width) * 2 ^ (64 - s.lead - s.width) := xor_back _ _
          refine ⟨by simp; omega, ?_, xor_lt64 b3 hp, by omega, by omega⟩
          unfold encX
          rw [if_neg (by rw [hh]; decide), hd, if_neg (by have := Nat.two_pow_pos (64 - s.lead - s.width); exact fun e => hz ((Nat.mul_eq_zero.1 e).resolve_right (by omega))), if_pos b1, b2, valB_take (by omega), Nat.add_comm 2]
          rfl
    | true :: true :: r, h =>
      simp only at h
      generalize hL : numB (r.take 5) = L at h
      generalize hW : numB ((r.drop 5).take 6) + 1 = W at h
      have hL5 := take_lt r 5
      have hW6 := take_lt (r.drop 5) 6
      split at h
      · simp at h
      · rename_i h11
        split at h
        · simp at h
        · rename_i hLW
          split at h
          · simp at h
          · rename_i hl
            have hlt := take_lt (r.drop 11) W
            generalize hn : numB ((r.drop 11).take W) = m at h hlt
            obtain ⟨b1, b2, b3⟩ := band_holds (L := L) (W := W) (by omega) hlt
            split at h
            · simp at h
            · rename_i hnew
              have hnew1 : holdsX s.lead s.width (m * 2 ^ (64 - L - W)) = false := by
                cases hx : holdsX s.lead s.width (m * 2 ^ (64 - L - W)) with
                | false => rfl
                | true => exact absurd (Or.inl hx) hnew
              have hnew2 : leadX (m * 2 ^ (64 - L - W)) = L ∧ widX (m * 2 ^ (64 - L - W)) = W := by
                rcases Classical.em (leadX (m * 2 ^ (64 - L - W)) = L ∧ widX (m * 2 ^ (64 - L - W)) = W) with hx | hx
                · exact hx
                · exact absurd (Or.inr hx) hnew
              simp only [Prod.mk.injEq] at h
              obtain ⟨rfl, rfl, rfl, _⟩ := h
              have hd : (m * 2 ^ (64 - L - W) ^^^ s.prev) ^^^ s.prev = m * 2 ^ (64 - L - W) := xor_back _ _
              have hd0 : m * 2 ^ (64 - L - W) ≠ 0 := fun e => by
                rw [e] at hnew1
                unfold holdsX at hnew1
                rw [decide_eq_false_iff_not] at hnew1
                exact hnew1 ⟨Nat.zero_mod _, Nat.two_pow_pos _⟩
              refine ⟨by simp; omega, ?_, xor_lt64 b3 hp, by omega, by omega⟩
              unfold encX
              rw [if_neg (by rw [hh]; decide), hd, if_neg hd0, if_neg (by rw [hnew1]; decide), hnew2.1, hnew2.2, b2]
              have e1 : valB L 5 = r.take 5 := by rw [← hL]; exact valB_take (by omega)
              have e2 : valB (W - 1) 6 = (r.drop 5).take 6 := by rw [← hW, Nat.add_sub_cancel]; exact valB_take (by rw [List.length_drop]; omega)
              have e3 : valB m W = (r.drop 11).take W := by rw [← hn]; exact valB_take (by rw [List.length_drop]; omega)
              rw [e1, e2, e3]
              have e4 : (true :: true :: r).take (13 + W) = true :: true :: r.take (11 + W) := by rw [show 13 + W = (11 + W) + 1 + 1 by omega]; rfl
              have e5 : r.take 5 ++ (r.drop 5).take 6 ++ (r.drop 11).take W = r.take (11 + W) := by
                rw [show 11 + W = 5 + 6 + W by omega, List.take_add, List.take_add]
              rw [e4, e5]

/-- what is written is read -/
theorem dec_enc {s : XV} {v : Nat} (hs : soundX s = true) (hp : s.prev < 2 ^ 64) (hv : v < 2 ^ 64) (q : List Bool) : decX s ((encX s v).1 ++ q) = (v, (encX s v).1.length, (encX s v).2, 0) := by
  unfold encX
  by_cases hh : s.has = false
  · rw [if_pos hh]
    unfold decX
    rw [if_pos hh]
    simp only [List.length_append, valB_length]
    rw [if_neg (by omega), numB_front _ _ _ hv]
  · rw [if_neg hh]
    have hh' : s.has = true := by simpa using hh
    have hs' := hs
    unfold soundX at hs'
    rw [hh'] at hs'
    simp only [if_true, decide_eq_true_eq] at hs'
    by_cases h0 : v ^^^ s.prev = 0
    · rw [if_pos h0]
      unfold decX
      rw [if_neg hh]
      simp only [List.cons_append, List.nil_append, List.length_singleton]
      rw [xor_zero_iff.1 h0]
    · rw [if_neg h0]
      have hd := xor_lt64 hv hp
      have hx : (v ^^^ s.prev) ^^^ s.prev = v := xor_back _ _
      generalize v ^^^ s.prev = d at *
      by_cases hb : holdsX s.lead s.width d = true
      · rw [if_pos hb]
        obtain ⟨c1, c2⟩ := band_back hs'.2.1 hb
        unfold decX
        rw [if_neg hh]
        simp only [List.cons_append, List.length_cons, valB_length, List.length_append]
        rw [if_neg (by omega), numB_front _ _ _ c2, if_neg (by intro e; rw [e, Nat.zero_mul] at c1; exact h0 c1.symm), c1, hx]
        simp; omega
      · rw [if_neg hb]
        obtain ⟨n1, n2, n3, n4, n5⟩ := narrow_facts d h0 hd
        obtain ⟨c1, c2⟩ := band_back n3 n5
        generalize hL : leadX d = L at *
        generalize hW : widX d = W at *
        unfold decX
        rw [if_neg hh]
        simp only [List.cons_append, List.length_cons, valB_length, List.length_append]
        have e1 : numB ((valB L 5 ++ valB (W - 1) 6 ++ valB (d / 2 ^ (64 - L - W)) W ++ q).take 5) = L := by
          rw [List.append_assoc, List.append_assoc]; exact numB_front _ _ _ (by omega)
        have e2 : numB (((valB L 5 ++ valB (W - 1) 6 ++ valB (d / 2 ^ (64 - L - W)) W ++ q).drop 5).take 6) + 1 = W := by
          rw [List.append_assoc, List.append_assoc, List.drop_left' (valB_length _ _), numB_front _ _ _ (by omega)]; omega
        have e3 : numB (((valB L 5 ++ valB (W - 1) 6 ++ valB (d / 2 ^ (64 - L - W)) W ++ q).drop 11).take W) = d / 2 ^ (64 - L - W) := by
          rw [List.append_assoc, List.drop_left' (by simp [valB_length]), numB_front _ _ _ c2]
        rw [e1, e2, e3, if_neg (by omega), if_neg (by omega), if_neg (by omega), c1, if_neg (by
          rintro (h | h)
          · exact hb h
          · exact h ⟨hL, hW⟩), hx]
        simp; omega

end Go.Proofs.YtfooggamdbdniaaDoor

/- The small functions of layer 3: bandOf, behind, after; the program's and the document's Sound. -/
namespace Go.Proofs.YtfooggamdbdniaaDoor
open Go.RowKit

set_option maxRecDepth 100000 in
theorem bandOf_any (h : Bool) (p l b : Nat) (w : World) (hl : l < 256) (hb : b < 256) :
    Calls Tryd.prog 18 #[.agg #[.bool h, .int .u64 p, .int .u8 l, .int .u8 b]] w fun e w' => e = .returned (.agg #[.int .i64 l, .int .i64 b]) ∧ Below w.heap.size w w' := by
  have e1 : IntKind.i64.wrap (l : Int) = (l : Int) := by rw [IntKind.wrap_i64]; omega
  have e2 : IntKind.i64.wrap (b : Int) = (b : Int) := by rw [IntKind.wrap_i64]; omega
  go_enter Tryd.func18, Tryd.ntmps18
  go_wp2
  exact bodyPost_ret (results_cell_row Tryd.results18 _ _ (w.heap.size + 1) 50 #[.int .i64 l, .int .i64 b] (0, 0) _ rfl (by have h := heap_alloc_new (w.alloc (.cells #[.bool h, .int .u64 p, .int .u8 l, .int .u8 b] 24)) (.cells #[.int .i64 l, .int .i64 b] 50); rw [World.size_alloc] at h; exact h) Tryd.underlying50 rfl (by kernel_rfl)) rfl ⟨rfl, below_alloc2 _ _ _⟩

set_option maxRecDepth 100000 in
theorem behind_any (l b : Int) (w : World) (hl : 0 ≤ l ∧ l ≤ 1000) (hb : 0 ≤ b ∧ b ≤ 1000) :
    Calls Tryd.prog 19 #[.agg #[.int .i64 l, .int .i64 b]] w fun e w' => e = .returned (.int .i64 (64 - l - b)) ∧ Below w.heap.size w w' := by
  obtain ⟨h1, h2⟩ := hl
  obtain ⟨h3, h4⟩ := hb
  go_enter Tryd.func19, Tryd.ntmps19
  go_wp2
  go_ret
  exact ⟨rfl, below_alloc _ _⟩

set_option maxRecDepth 100000 in
theorem after_any (l b v : Nat) (w : World) (hl : l < 256) (hb : b < 256) :
    Calls Tryd.prog 28 #[.agg #[.int .i64 l, .int .i64 b], .int .u64 v] w fun e w' => e = .returned (.agg #[.bool true, .int .u64 v, .int .u8 l, .int .u8 b]) ∧ Below w.heap.size w w' := by
  have e1 : IntKind.u8.wrap (l : Int) = (l : Int) := by rw [IntKind.wrap_u8]; omega
  have e2 : IntKind.u8.wrap (b : Int) = (b : Int) := by rw [IntKind.wrap_u8]; omega
  go_enter Tryd.func28, Tryd.ntmps28
  go_wp2
  exact bodyPost_ret (results_cell_row Tryd.results28 _ _ (w.heap.size + 1) 24 #[.bool true, .int .u64 v, .int .u8 l, .int .u8 b] (0, 0) _ rfl (by have h := heap_alloc_new (w.alloc (.cells #[.int .i64 l, .int .i64 b] 50)) (.cells #[.bool true, .int .u64 v, .int .u8 l, .int .u8 b] 24); rw [World.size_alloc] at h; exact h) Tryd.underlying24 rfl (by kernel_rfl)) rfl ⟨rfl, below_alloc2 _ _ _⟩

end Go.Proofs.YtfooggamdbdniaaDoor

/- The program's and the document's Sound of layer 3. -/
namespace Go.Proofs.YtfooggamdbdniaaDoor
open Go.RowKit

set_option maxRecDepth 100000 in
set_option maxHeartbeats 1000000 in
theorem xsound_any (h : Bool) (p l b : Nat) (w : World) (hl : l < 256) (hb : b < 256) :
    Calls Tryd.prog 10 #[.agg #[.bool h, .int .u64 p, .int .u8 l, .int .u8 b]] w fun e w' => e = .returned (.bool (soundX ⟨h, p, l, b⟩)) ∧ Below w.heap.size w w' := by
  cases h
  · obtain ⟨r, hr⟩ : ∃ r, r = soundX ⟨false, p, l, b⟩ := ⟨_, rfl⟩
    rw [← hr]
    have HR := Lib.hid hr
    clear hr
    go_enter Tryd.func10, Tryd.ntmps10
    go_wp2
    all_goals
      go_ret
      refine ⟨ret_bool ?_, below_alloc _ _⟩
      rw [HR.out]
      unfold soundX
      simp
    all_goals (first | omega | (rw [Bool.eq_iff_iff]; simp; omega))
  · obtain ⟨r, hr⟩ : ∃ r, r = soundX ⟨true, p, l, b⟩ := ⟨_, rfl⟩
    rw [← hr]
    have HR := Lib.hid hr
    clear hr
    go_enter Tryd.func10, Tryd.ntmps10
    go_wp2_with (first
      | go_at_call 18; refine (bandOf_any _ _ _ _ _ hl hb).mono ?_; rintro e w1 ⟨rfl, b1⟩; have t1 : Below w.heap.size w w1 := go1 b1
      | (go_at_call 19; refine (behind_any _ _ _ (by omega) (by omega)).mono ?_; rintro e w2 ⟨rfl, b2⟩; have t2 : Below w.heap.size w w2 := on t1 b2))
    all_goals
      go_ret
      refine ⟨ret_bool ?_, by first | exact t2 | exact onA t1⟩
      rw [HR.out]
      unfold soundX
      simp
    all_goals (first | omega | (rw [Bool.eq_iff_iff]; simp; omega))

set_option maxRecDepth 100000 in
set_option maxHeartbeats 2000000 in
theorem rxsound_any (h : Bool) (p l b : Nat) (w : World) (hl : l < 256) (hb : b < 256) :
    Calls Tryd.prog 11 #[.agg #[.bool h, .int .u64 p, .int .u8 l, .int .u8 b]] w fun e w' => e = .returned (.bool (soundX ⟨h, p, l, b⟩)) ∧ Below w.heap.size w w' := by
  have e1 : IntKind.i64.wrap (l : Int) = (l : Int) := by rw [IntKind.wrap_i64]; omega
  have e2 : IntKind.i64.wrap (b : Int) = (b : Int) := by rw [IntKind.wrap_i64]; omega
  have e3 : IntKind.i64.wrap ((l : Int) + (b : Int)) = (l : Int) + (b : Int) := by rw [IntKind.wrap_i64]; omega
  obtain ⟨r, hr⟩ : ∃ r, r = soundX ⟨h, p, l, b⟩ := ⟨_, rfl⟩
  rw [← hr]
  have HR := Lib.hid hr
  clear hr
  cases h
  all_goals
    go_enter Tryd.func11, Tryd.ntmps11
    go_wp2_with fail
  all_goals
    go_ret
    refine ⟨ret_bool ?_, below_alloc _ _⟩
    rw [HR.out]
    unfold soundX
    simp
  all_goals (first | omega | (rw [Bool.eq_iff_iff]; simp; omega) | (simp at *; omega))

end Go.Proofs.YtfooggamdbdniaaDoor

/- 'append(out, x...)' of bytes, x nil or not. -/
namespace Go.Proofs.YtfooggamdbdniaaDoor
open Go.RowKit

theorem run_app_nil {P : Program} (w : World) (base : Nat) (t ty e : TypeId) (i : TypeInfo) (size : Nat) (ht : P.underlying t = some (.slice e)) (hi : P.info? e = some i)
    (v : Value) (n : Nat) (xs : List Value) (hown : w.ownsRow base e size v n xs) (c : Nat) : (Builtin.append_ #[t, t] ty #[v, .slice none 0 c]).run P w = .ok v w := by
  rcases hown.2 with ⟨rfl, rfl⟩ | ⟨g, cap, cur, rfl, _, _, hnc, _⟩
  · simp [Builtin.append_, run_underlying ht, sizeOf, typeInfo, hi, Builtin.lenOf, Builtin.firstCells]
  · simp [Builtin.append_, run_underlying ht, sizeOf, typeInfo, hi, Builtin.lenOf, Builtin.firstCells, hnc, storeCells]

set_option maxRecDepth 100000 in
/-- 'append(out, x...)' -/
theorem appAll (w : World) {ops : Array Oper} {rest : List Oper} {o : Oper} {a : Act} {Q : Exit → Act → World → Prop} (hgd : o.guard = none) (s x : Operand)
    (ho : o.op = .call { callee := .builtin .append, args := #[s, x], argTypes := #[27, 27] })
    (base : Nat) (v : Value) (L : List UInt8) (hs : a.eval s = v) (hown : OwnB w base v L) (A : Option Addr) (c : Nat) (l : List UInt8)
    (hx : a.eval x = .slice A l.length c) (hb : Bs w A l) (hlen : L.length + l.length ≤ 140737488355328) (hbase : base ≤ w.heap.size)
    (h : ∀ A' c' w', OwnB w' base (.slice A' (L.length + l.length) c') (L ++ l) → Below base w w' → wpList Tryd.prog ops Q rest (a.put o.dst (.slice A' (L.length + l.length) c')) w') : wpList Tryd.prog ops Q (o :: rest) a w := by
  obtain ⟨i, hi, hz, hsz, hby⟩ := info_parts Tryd.info_u8
  rcases A with _ | ad
  · have h0 : l = [] := by
      cases l with
      | nil => rfl
      | cons b l => obtain ⟨p, o, hA, _⟩ := hb 0 b rfl; cases hA
    subst h0
    obtain ⟨A', c', rfl, _⟩ := hown.isB
    refine wpList_plain hgd fun K hK => ?_
    have hrun := run_app_nil (P := Tryd.prog) w base 27 o.type 5 i 1 Tryd.underlying27 hi _ _ _ hown c
    unfold Oper.wp
    simp [execOp, ho, resolve, invoke, builtin, hs, hx, hrun, Result.andThen]
    exact hK _ _ (h A' c' w (by simpa using hown) (Below.refl _ _))
  · refine wpList_append_own (P := Tryd.prog) w hgd s x 27 ho base 5 i (.int .u8 0) 1 1 Tryd.underlying27 hi hz hsz hby rfl (by decide) v L.length (L.map bv) hs hown ad l.length c (l.map bv) hx (by simp) ?_ ?_ (by unfold maxLen; omega) (by omega) hbase fun v' w' h2 h3 _ => ?_
    · intro j u hj
      rw [List.getElem?_map] at hj
      obtain ⟨b, hjb, rfl⟩ := Option.map_eq_some_iff.1 hj
      obtain ⟨p, o, hA, hc⟩ := hb j b hjb
      injection hA with e
      subst e
      unfold Addr.add
      split
      · rename_i h0; subst h0; simpa using hc
      · exact hc
    · intro u hu
      obtain ⟨b, _, rfl⟩ := List.mem_map.1 hu
      rfl
    · have h4 : OwnB w' base v' (L ++ l) := by unfold OwnB; rw [List.length_append, List.map_append]; exact h2
      obtain ⟨A', c', hv, _⟩ := h4.isB
      rw [List.length_append] at hv
      subst hv
      exact h A' c' w' h4 (own_grown hown h3 hbase)

end Go.Proofs.YtfooggamdbdniaaDoor

/- Contracts of the document's own functions of layer 1. -/
namespace Go.Proofs.YtfooggamdbdniaaDoor
open Go.RowKit

set_option maxHeartbeats 400000 in
theorem refBit_any (A : Option Addr) (c : Nat) (l : List UInt8) (n : Int) (i : Nat) (w : World) (hb : Bs w A l) (hi : i / 8 < l.length) (hl : l.length ≤ maxLen) :
    Calls Tryd.prog 30 #[.agg #[.slice A l.length c, .int .i64 n], .int .i64 i] w fun e w' => e = .returned (bv (b2u (bt l i))) ∧ Below w.heap.size w w' := by
  unfold maxLen at hl
  have hpos : 0 < l.length := by omega
  obtain ⟨p, o, rfl, hlt, hc⟩ := hb.at_ hpos
  have hc1 := hc _ hi
  clear hc
  go_enter Tryd.func30, Tryd.ntmps30
  go_wp2
  go_ret
  refine ⟨?_, (Below.refl _ _).alloc (Nat.le_refl _) _⟩
  refine ret_int (?_ : bits .and .u8 (((l[i / 8]).toNat : Int) / 2 ^ (7 - i % 8)) 1 = _)
  rw [nat_shr, and_one_u8 _ (by have := (l[i / 8]).toNat_lt; exact Nat.lt_of_le_of_lt (Nat.div_le_self _ _) this), shr_bit]
  rw [b2u_toNat]; simp [bt, hi]

end Go.Proofs.YtfooggamdbdniaaDoor

/- Contracts of the document's own functions of layer 1: Sound. -/
namespace Go.Proofs.YtfooggamdbdniaaDoor
open Go.RowKit

theorem sound_false {l : List UInt8} {n : Int} (h : ¬ (0 ≤ n ∧ l.length = nb n.toNat ∧ ∀ i, n.toNat ≤ i → bt l i = false)) : soundB l n = false := by
  rw [← soundB_iff] at h; simpa using h
theorem b2u_eq (b : Bool) : (((b2u b).toNat : Int) == 1) = b := by cases b <;> rfl

set_option maxHeartbeats 400000 in
theorem refSound_any (A : Option Addr) (c : Nat) (l : List UInt8) (n : Int) (w : World) (hb : Bs w A l) (hn : -9223372036854775808 ≤ n ∧ n ≤ 9223372036854775807) (hl : l.length ≤ 1099511627776) :
    Calls Tryd.prog 23 #[.agg #[.slice A l.length c, .int .i64 n]] w fun e w' => e = .returned (.bool (soundB l n)) ∧ Below w.heap.size w w' := by
  by_cases h0 : n < 0
  · have hd : decide (n < 0) = true := by simpa using h0
    go_enter Tryd.func23, Tryd.ntmps23
    go_wp2
    go_ret
    exact ⟨ret_bool (sound_false (by omega)).symm, below_alloc _ _⟩
  · have hd : decide (n < 0) = false := by simpa using h0
    obtain ⟨m, rfl⟩ := Int.eq_ofNat_of_zero_le (show 0 ≤ n by omega)
    by_cases h1 : 8 * l.length < m
    · have hg : (8 : Int) * (l.length : Int) < (m : Int) := by omega
      go_enter Tryd.func23, Tryd.ntmps23
      go_wp2
      go_ret
      exact ⟨ret_bool (sound_false (by rintro ⟨_, h, _⟩; simp only [nb, Int.toNat_natCast] at h; omega)).symm, below_alloc _ _⟩
    · have hg : ¬ (8 : Int) * (l.length : Int) < (m : Int) := by omega
      by_cases h2 : ¬ l.length = 0 ∧ m ≤ 8 * (l.length - 1)
      · obtain ⟨h2, h3⟩ := h2
        have hg2 : ((l.length : Int) != 0) = true := bne_iff_ne.2 (by omega)
        have hg3 : (m : Int) ≤ 8 * ((l.length : Int) - 1) := by clear hg2; omega
        go_enter Tryd.func23, Tryd.ntmps23
        go_wp2
        go_ret
        exact ⟨ret_bool (sound_false (by rintro ⟨_, h, _⟩; simp only [nb, Int.toNat_natCast] at h; omega)).symm, below_alloc _ _⟩
      · have hnb : l.length = nb m := by unfold nb; omega
        have HNB := Lib.hid hnb
        clear hnb
        have key : ∀ (b : Bool), ((l.length : Int) != 0) = b → (b = true → ¬ (m : Int) ≤ 8 * ((l.length : Int) - 1)) → 
            Calls Tryd.prog 23 #[.agg #[.slice A l.length c, .int .i64 m]] w fun e w' => e = .returned (.bool (soundB l m)) ∧ Below w.heap.size w w' := by
          intro b hg2 hg3
          cases b
          all_goals
            try have hg4 := hg3 rfl
            clear hg3
            go_enter Tryd.func23, Tryd.ntmps23
            go_wp2
            go_loopw [3] (fun i wr => ∃ k : Nat, m ≤ k ∧ k ≤ 8 * l.length ∧ i = .int .i64 k ∧ (∀ j, m ≤ j → j < k → bt l j = false) ∧ Below (w.heap.size + 1) (w.alloc (.cells #[.slice A l.length c, .int .i64 m] 29)) wr)
              (fun i _ => 8 * l.length - (intOf i).toNat)
            case atStart => exact ⟨m, Nat.le_refl _, by omega, rfl, fun j h1 h2 => by omega, Below.refl _ _⟩
            case round =>
              obtain ⟨k, hmk, hk, rfl, hz, hbel⟩ := hrel
              have HZ := Lib.hid hz
              clear hz
              have c0 : wr.cell? ⟨w.heap.size, 0, none⟩ = some (.slice A l.length c) := (hbel.cell (Nat.lt_succ_self _)).trans (box_cell _ _ _ _ _ rfl)
              have c1 : wr.cell? ⟨w.heap.size, 1, none⟩ = some (.int .i64 m) := (hbel.cell (Nat.lt_succ_self _)).trans (box_cell _ _ _ _ _ rfl)
              have hBs : Bs wr A l := (hb.below (below_alloc _ _)).below (by simpa using hbel)
              have hsz : w.heap.size + 1 ≤ wr.heap.size := by have := hbel.size; simpa using this
              by_cases hlt : k < 8 * l.length
              · have hltI : (k : Int) < 8 * (l.length : Int) := by omega
                have hbk := b2u_eq (bt l k)
                cases hbt : bt l k
                all_goals
                  rw [hbt] at hbk
                  have HB := Lib.hid hbt
                  clear hbt
                  go_wp2_with (go_at_call 30; refine (refBit_any A c l m k _ hBs (by omega) (by unfold maxLen; omega)).mono ?_; rw [HB.out]; rintro e w1 ⟨rfl, hb1⟩)
                · go_roundw
                  case measure => simp [intOf]; omega
                  case rel =>
                    refine ⟨k + 1, by omega, by omega, by go_num, fun j h1 h2 => ?_, hbel.trans (hb1.mono hsz)⟩
                    rcases Nat.lt_or_ge j k with h | h
                    · exact HZ.out j h1 h
                    · obtain rfl : j = k := by omega
                      exact HB.out
                · go_ret
                  exact ⟨ret_bool (sound_false (by rintro ⟨_, _, h⟩; have := h k (by simpa using hmk); rw [HB.out] at this; cases this)).symm, (below_alloc _ _).trans ((hbel.trans (hb1.mono hsz)).mono (by omega))⟩
              · obtain rfl : k = 8 * l.length := by omega
                have hltI : ¬ ((8 * l.length : Nat) : Int) < 8 * (l.length : Int) := by omega
                go_wp2
                go_ret
                refine ⟨ret_bool ((soundB_iff l m).2 ⟨by omega, HNB.out, fun i hi => ?_⟩).symm, (below_alloc _ _).trans (hbel.mono (by omega))⟩
                rcases Nat.lt_or_ge i (8 * l.length) with h | h
                · exact HZ.out i (by simpa using hi) h
                · exact bt_none l i h
        exact key _ rfl (by simp; omega)

end Go.Proofs.YtfooggamdbdniaaDoor

/- Contracts of the document's own functions of layer 1: Get. -/
namespace Go.Proofs.YtfooggamdbdniaaDoor
open Go.RowKit

theorem numB_bound (l : List UInt8) (a t : Nat) (ht : t ≤ 64) : numB (cutl l a t) < 18446744073709551616 := by
  have h := numB_lt (cutl l a t)
  rw [cutl_length] at h
  exact Nat.lt_of_lt_of_le h (Nat.pow_le_pow_right (by decide) ht : 2 ^ t ≤ 2 ^ 64)
theorem numB_bound' (l : List UInt8) (a t : Nat) (ht : t < 64) : numB (cutl l a t) < 9223372036854775808 := by
  have h := numB_lt (cutl l a t)
  rw [cutl_length] at h
  exact Nat.lt_of_lt_of_le h (Nat.pow_le_pow_right (by decide) (show t ≤ 63 by omega) : 2 ^ t ≤ 2 ^ 63)

set_option maxHeartbeats 1000000 in
theorem refGet_ok (A : Option Addr) (c : Nat) (l : List UInt8) (n a d : Nat) (w : World) (hb : Bs w A l) (hl : l.length ≤ 1099511627776) (hs : soundB l n = true) (hd : d ≤ 64) (had : a + d ≤ n) :
    Calls Tryd.prog 40 #[.agg #[.slice A l.length c, .int .i64 n], .int .i64 a, .int .i64 d] w fun e w' => e = .returned (.tuple #[.int .u64 (numB (cutl l a d)), .int .i64 0]) ∧ Below w.heap.size w w' := by
  have hb0 := hb.below (below_alloc w (.cells #[.slice A l.length c, .int .i64 n] 29))
  obtain ⟨m, hm, hm8, -⟩ := sound_nat hs
  obtain rfl : m = n := by omega
  have HS := Lib.hid hs
  clear hs hm
  have hd0 : decide ((d : Int) < 0) = false := by simp
  have h64 : ¬ (64 : Int) < d := by omega
  have h1 : decide ((a : Int) < 0) = false := by simp
  have h2 : decide (m < a) = false := by simp; omega
  have h3 : ¬ (m : Int) - a < d := by omega
  go_enter Tryd.func40, Tryd.ntmps40
  go_wp2_with fail
  refine (refSound_any A c l m _ hb0 (by omega) hl).mono ?_
  rw [HS.out]
  rintro e w1 ⟨rfl, hb1⟩
  obtain ⟨c0, c1, hsz, _, _⟩ := kept1 hb1 (by simp)
  go_wp2_with fail
  go_loopw [9, 10] (fun v i wr => ∃ t : Nat, t ≤ d ∧ i = .int .i64 ((a + t : Nat) : Int) ∧ v = .int .u64 (numB (cutl l a t)) ∧ Below (w.heap.size + 1) (w.alloc (.cells #[.slice A l.length c, .int .i64 m] 29)) wr)
    (fun _ i _ => a + d - (intOf i).toNat)
  case atStart => exact ⟨0, Nat.zero_le _, rfl, rfl, by simpa using hb1⟩
  case round =>
    obtain ⟨t, ht, rfl, rfl, hbel⟩ := hrel
    clear c0 c1 hsz
    obtain ⟨c0, c1, hsz, _, _⟩ := kept1 hbel (by omega)
    have hBs : Bs wr A l := hb0.below (by simpa using hbel)
    have hB := numB_bound l a t (by omega)
    by_cases hlt : t < d
    · have hB' := numB_bound' l a t (by omega)
      have hltI : ((a + t : Nat) : Int) < (a : Int) + d := by omega
      have hbit := b2n_le (bt l (a + t))
      have hu := b2u_toNat (bt l (a + t))
      have hs' : numB (cutl l a (t + 1)) = 2 * numB (cutl l a t) + b2n (bt l (a + t)) := by rw [cutl_succ, numB_snoc]
      generalize numB (cutl l a t) = N at *
      have HS' := Lib.hid hs'
      clear hs'
      obtain ⟨x, hx⟩ : ∃ x : UInt8, x = b2u (bt l (a + t)) := ⟨_, rfl⟩
      rw [← hx] at hu
      have hx1 : x.toNat ≤ 1 := by omega
      have HX := Lib.hid hx
      have HU := Lib.hid hu
      clear hx hu
      go_wp2_with (go_at_call 30; refine (refBit_any A c l m (a + t) _ hBs (by omega) (by unfold maxLen; omega)).mono ?_; rw [← HX.out]; rintro e w2 ⟨rfl, hb2⟩)
      go_roundw
      case measure => simp [intOf]; omega
      case rel => exact ⟨t + 1, by omega, by go_num, by rw [HS'.out, ← HU.out]; go_num, hbel.trans (hb2.mono hsz)⟩
    · obtain rfl : t = d := by omega
      have hltI : ¬ ((a + t : Nat) : Int) < (a : Int) + t := by omega
      go_wp2
      go_ret2
      exact ⟨rfl, (below_alloc _ _).trans (hbel.mono (by omega))⟩

end Go.Proofs.YtfooggamdbdniaaDoor

/- Contracts of the document's own functions of layer 1: Of. -/
namespace Go.Proofs.YtfooggamdbdniaaDoor
open Go.RowKit

theorem of_step {w : World} {B g n cap k : Nat} {bs : List Bool} {L : List UInt8} {X : UInt8} (hown : OwnB w B (.slice (some ⟨g, 0, none⟩) n cap) L) (hk : k < bs.length) (hu : k < (u8s bs).length)
    (hL : L = if k % 8 = 0 then pack (bs.take k) ++ [0] else pack (bs.take k)) (hx : L[k / 8]? = some X) (hB : B ≤ g) :
    OwnB (w.setCell ⟨g, k / 8, none⟩ (.int .u8 (bits .or .u8 (X.toNat : Int) (((u8s bs)[k].toNat : Int) * 2 ^ (7 - k % 8) % 256)))).drew B (.slice (some ⟨g, 0, none⟩) n cap) (pack (bs.take (k + 1))) ∧
    Below B w (w.setCell ⟨g, k / 8, none⟩ (.int .u8 (bits .or .u8 (X.toNat : Int) (((u8s bs)[k].toNat : Int) * 2 ^ (7 - k % 8) % 256)))).drew := by
  rw [u8s_get, or_val _ _ _ (by omega), ← pack_take bs k hk L X hL hx]
  exact ⟨(hown.set _ _).drew, ((Below.refl _ _).setCell hB _).drew⟩

set_option maxHeartbeats 400000 in
theorem refOf_any (A : Option Addr) (c : Nat) (bs : List Bool) (w : World) (hb : Bs w A (u8s bs)) (hl : bs.length ≤ 17592186044416) :
    Calls Tryd.prog 26 #[.slice A bs.length c] w fun e w' => ∃ A' c', e = .returned (.agg #[.slice A' (pack bs).length c', .int .i64 bs.length]) ∧ OwnB w' w.heap.size (.slice A' (pack bs).length c') (pack bs) ∧ Below w.heap.size w w' := by
  go_enter Tryd.func26, Tryd.ntmps26
  go_wp2
  go_loopw [3, 4] (fun v i wr => ∃ k : Nat, k ≤ bs.length ∧ i = .int .i64 k ∧ OwnB wr (w.heap.size + 1) v (pack (bs.take k)) ∧ Below (w.heap.size + 1) (w.alloc (.cells #[.slice none 0 0, .int .i64 0] 29)) wr)
    (fun _ i _ => bs.length - (intOf i).toNat)
  case atStart => exact ⟨0, Nat.zero_le _, rfl, by simpa [pack, nb] using OwnB.nil _ _, Below.refl _ _⟩
  case round =>
    obtain ⟨k, hk, rfl, hown, hbel⟩ := hrel
    have hsz : w.heap.size + 1 ≤ wr.heap.size := by have := hbel.size; simpa using this
    by_cases hlt : k < bs.length
    · have hu : k < (u8s bs).length := by rw [u8s_length]; exact hlt
      obtain ⟨p, o, rfl, hpl, hc⟩ := hb.at_ (show 0 < (u8s bs).length by omega)
      have hck := hc k hu
      clear hc
      by_cases h8 : k % 8 = 0
      · have he : (((k : Int) % 8) == 0) = true := by simp; omega
        have hlen : (pack (bs.take k)).length = k / 8 := by rw [pack_length]; unfold nb; simp; omega
        have H8 := Lib.hid h8
        clear h8
        have HL := Lib.hid hlen
        clear hlen
        go_wp2_with (at_builtin; go_must (refine appB _ rfl (.tmp 14) (.tmp 15) rfl (w.heap.size + 1) _ _ rfl (hown.alloc _) wr.heap.size 0 rfl (box_cell _ _ _ _ _ rfl) (by rw [HL.out]; omega) (by simp; omega) ?_); intro g2 cap2 w2 hown2 hbel2)
        have hL : (pack (bs.take k) ++ [0]).length = k / 8 + 1 := by rw [List.length_append, HL.out]; rfl
        have hj : k / 8 < (pack (bs.take k) ++ [0]).length := by omega
        have hx := hown2.cell (k / 8) hj
        have hfr := hown2.frozen (k / 8)
        have hckw : w2.cell? ⟨p, o + k, none⟩ = some (bv (u8s bs)[k]) := by
          rw [hbel2.cell (show p < w.heap.size + 1 by omega), World.cell?_alloc_lt _ _ _ (by show p < wr.heap.size; omega), hbel.cell (show p < w.heap.size + 1 by omega), World.cell?_alloc_lt _ _ _ hpl]
          exact hck
        have hjl : k / 8 < (pack (bs.take k)).length + 1 := by rw [HL.out]; omega
        generalize hX : (pack (bs.take k) ++ [0])[k / 8] = X at hx
        have HX := Lib.hid hX
        clear hX
        have hkl : (k : Int) / 8 < ((pack (bs.take k)).length : Int) + 1 := by omega
        go_region
        go_wp2
        go_roundw
        case measure => simp [intOf]; omega
        case rel =>
          obtain ⟨h1, h2⟩ := of_step hown2 hlt hu (by rw [if_pos H8.out]) (X := X) (by rw [← HX.out]; exact List.getElem?_eq_getElem hj) (hown2.base (by omega))
          exact ⟨k + 1, by omega, by go_num, h1, ((hbel.trans ((Below.refl _ _).alloc (by omega) _)).trans hbel2).trans h2⟩
      · have he : (((k : Int) % 8) == 0) = false := by simp; omega
        have hlen : (pack (bs.take k)).length = k / 8 + 1 := by rw [pack_length]; unfold nb; simp; omega
        have HL := Lib.hid hlen
        obtain ⟨g2, cap2, rfl, hg2, _, _⟩ := hown.form (by omega)
        have hj : k / 8 < (pack (bs.take k)).length := by omega
        have hx := hown.cell (k / 8) hj
        have hfr := hown.frozen (k / 8)
        have hckw : wr.cell? ⟨p, o + k, none⟩ = some (bv (u8s bs)[k]) := by
          rw [hbel.cell (show p < w.heap.size + 1 by omega), World.cell?_alloc_lt _ _ _ hpl]
          exact hck
        generalize hX : (pack (bs.take k))[k / 8] = X at hx
        have HX := Lib.hid hX
        clear hX
        have hkl : (k : Int) / 8 < ((pack (bs.take k)).length : Int) := by omega
        clear hlen
        go_wp2
        go_region
        go_wp2
        go_roundw
        case measure => simp [intOf]; omega
        case rel =>
          obtain ⟨h1, h2⟩ := of_step hown hlt hu (by rw [if_neg h8]) (X := X) (by rw [← HX.out]; exact List.getElem?_eq_getElem hj) hg2
          exact ⟨k + 1, by omega, by go_num, h1, hbel.trans h2⟩
    · obtain rfl : k = bs.length := by omega
      have c0 : wr.cell? ⟨w.heap.size, 0, none⟩ = some (.slice none 0 0) := (hbel.cell (Nat.lt_succ_self _)).trans (box_cell _ _ _ _ _ rfl)
      have c1 : wr.cell? ⟨w.heap.size, 1, none⟩ = some (.int .i64 0) := (hbel.cell (Nat.lt_succ_self _)).trans (box_cell _ _ _ _ _ rfl)
      have f0 : wr.frozen? ⟨w.heap.size, 0, none⟩ = false := (hbel.frozen (Nat.lt_succ_self _)).trans (box_free _ _ _ _)
      have f1 : wr.frozen? ⟨w.heap.size, 1, none⟩ = false := (hbel.frozen (Nat.lt_succ_self _)).trans (box_free _ _ _ _)
      obtain ⟨A', c', rfl, _⟩ := hown.isB
      go_wp2
      refine bodyPost_ret (v := .agg #[.slice A' (pack bs).length c', .int .i64 bs.length]) (by simp [results, Tryd.results26, go_sem, c0, c1]) rfl ?_
      refine ⟨_, _, rfl, ?_, ?_⟩
      · have ho : OwnB wr (w.heap.size + 1) (.slice A' (pack bs).length c') (pack bs) := by simpa using hown
        have hne := ho.ne (Nat.lt_succ_self _)
        exact ((ho.mono (by omega)).far hne _).far hne _
      · exact (((below_alloc _ _).trans (hbel.mono (by omega))).setCell (Nat.le_refl _) _).setCell (Nat.le_refl _) _

end Go.Proofs.YtfooggamdbdniaaDoor

/- Contracts of the document's own functions of layer 1: Cut. -/
namespace Go.Proofs.YtfooggamdbdniaaDoor
open Go.RowKit

set_option maxHeartbeats 1000000 in
theorem refCut_ok (A : Option Addr) (c : Nat) (l : List UInt8) (m a b : Nat) (w : World) (hb : Bs w A l) (hl : l.length ≤ 1099511627776) (hs : soundB l m = true) (hab : a ≤ b) (hbm : b ≤ m) :
    Calls Tryd.prog 17 #[.agg #[.slice A l.length c, .int .i64 m], .int .i64 a, .int .i64 b] w fun e w' =>
      ∃ A' c', e = .returned (.tuple #[.agg #[.slice A' (pack (cutl l a (b - a))).length c', .int .i64 ((b - a : Nat) : Int)], .int .i64 0]) ∧ OwnB w' w.heap.size (.slice A' (pack (cutl l a (b - a))).length c') (pack (cutl l a (b - a))) ∧ Below w.heap.size w w' := by
  have hb0 := hb.below (below_alloc2 w (.cells #[.slice A l.length c, .int .i64 m] 29) (.cells #[.slice none 0 0, .int .i64 0] 29))
  obtain ⟨m', hm, hm8, -⟩ := sound_nat hs
  obtain rfl : m = m' := by omega
  have HS := Lib.hid hs
  clear hs hm
  have h1 : decide ((a : Int) < 0) = false := by simp
  have h2 : decide (b < a) = false := by simp; omega
  have h3 : decide (m < b) = false := by simp; omega
  go_enter Tryd.func17, Tryd.ntmps17
  go_wp2_with (go_at_call 23; refine (refSound_any A c l m _ hb0 (by omega) hl).mono ?_; rw [HS.out]; rintro e w1 ⟨rfl, hb1⟩; obtain ⟨c0, c1, r0, r1, f0, f1, hsz⟩ := kept2 hb1 (by simp))
  go_loopw [9, 10] (fun vl i wr => ∃ t : Nat, t ≤ b - a ∧ i = .int .i64 ((a + t : Nat) : Int) ∧ OwnB wr (w.heap.size + 2) vl (u8s (cutl l a t)) ∧ 
      Below (w.heap.size + 2) ((w.alloc (.cells #[.slice A l.length c, .int .i64 m] 29)).alloc (.cells #[.slice none 0 0, .int .i64 0] 29)) wr)
    (fun _ i _ => b - (intOf i).toNat)
  case atStart => exact ⟨0, Nat.zero_le _, rfl, OwnB.nil _ _, by simpa using hb1⟩
  case round =>
    obtain ⟨t, ht, rfl, hown, hbel⟩ := hrel
    clear c0 c1 r0 r1 f0 f1 hsz
    obtain ⟨c0, c1, r0, r1, f0, f1, hsz⟩ := kept2 hbel (by omega)
    have hBs : Bs wr A l := hb0.below (by simpa using hbel)
    by_cases hlt : t < b - a
    · have hltI : a + t < b := by omega
      go_wp2_with (first
        | (go_at_call 30; refine (refBit_any A c l m (a + t) _ hBs (by omega) (by unfold maxLen; omega)).mono ?_; rintro e w2 ⟨rfl, hb2⟩)
        | (at_builtin; go_must (refine appB _ rfl (.tmp 36) (.tmp 40) rfl (w.heap.size + 2) _ _ rfl ((hown.below hb2).alloc _) w2.heap.size (b2u (bt l (a + t))) rfl (box_cell _ _ _ _ _ rfl) (by rw [u8s_length, cutl_length]; omega) (by have := hb2.size; simp; omega) ?_); intro g2 cap2 w3 hown3 hbel3))
      go_roundw
      case measure => simp [intOf]; omega
      case rel => exact ⟨t + 1, by omega, by go_num, by rw [cutl_succ, u8s_snoc]; exact hown3, (hbel.trans (hb2.mono hsz)).trans (((Below.refl _ _).alloc (by have := hb2.size; omega) _).trans hbel3)⟩
    · have ht' : t = b - a := by omega
      have hltI : ¬ a + t < b := by omega
      obtain ⟨L, HL⟩ : ∃ L, Hid (cutl l a t = L) := ⟨_, rfl⟩
      have HL2 : Hid (L = cutl l a (b - a)) := by rw [← HL.out, ← ht']; rfl
      have hLl : L.length ≤ 17592186044416 := by rw [HL2.out, cutl_length]; omega
      rw [HL.out] at hown
      have HT := Lib.hid ht'
      clear ht'
      obtain ⟨A', c', hv9, hc1, hc2, hBs'⟩ := hown.isB
      rw [u8s_length] at hv9
      subst hv9
      go_wp2_with (go_at_call 26; refine (refOf_any A' c' L _ hBs' hLl).mono ?_; rintro e w4 ⟨A4, c4, rfl, hown4, hb4⟩; obtain ⟨_, _, r40, r41, f40, f41, hsz4⟩ := kept2 (hbel.trans (hb4.mono hsz)) (by simp))
      refine bodyPost_ret (v := .tuple #[.agg #[.slice A4 (pack L).length c4, .int .i64 L.length], .int .i64 0]) (by simp [results, Tryd.results17, go_sem, r40, r41]) rfl ?_
      have hne := (hown4.mono hsz).ne (show w.heap.size + 1 < w.heap.size + 2 by omega)
      refine ⟨_, _, by rw [HL2.out, cutl_length], ?_, ?_⟩
      · rw [← HL2.out]; exact ((hown4.mono (by omega)).far hne _).far hne _
      · exact (((below_alloc2 _ _ _).trans ((hbel.trans (hb4.mono hsz)).mono (by omega))).setCell (by simp) _).setCell (by simp) _

set_option maxHeartbeats 1000000 in
theorem refCut_err (A : Option Addr) (c : Nat) (l : List UInt8) (n a b : Int) (w : World) (hb : Bs w A l) (hn : -9223372036854775808 ≤ n ∧ n ≤ 9223372036854775807) (hl : l.length ≤ 1099511627776)
    (ha : -9223372036854775808 ≤ a ∧ a ≤ 9223372036854775807) (hwd : -9223372036854775808 ≤ b ∧ b ≤ 9223372036854775807) (k : Nat) (hk : (cutSpec l n a b).2.2 = k) (hk0 : k ≠ 0) :
    Calls Tryd.prog 17 #[.agg #[.slice A l.length c, .int .i64 n], .int .i64 a, .int .i64 b] w fun e w' =>
      ∃ A' c', e = .returned (.tuple #[.agg #[.slice A' 0 c', .int .i64 0], .int .i64 k]) ∧ OwnB w' w.heap.size (.slice A' 0 c') [] ∧ Below w.heap.size w w' := by
  have hb0 := hb.below (below_alloc2 w (.cells #[.slice A l.length c, .int .i64 n] 29) (.cells #[.slice none 0 0, .int .i64 0] 29))
  by_cases hs : soundB l n = false
  · obtain rfl : k = 11 := by rw [← hk]; simp [cutSpec, hs]
    have HS := Lib.hid hs
    clear hs hk
    go_enter Tryd.func17, Tryd.ntmps17
    go_wp2_with (go_at_call 23; refine (refSound_any A c l n _ hb0 hn hl).mono ?_; rw [HS.out]; rintro e w1 ⟨rfl, hb1⟩; obtain ⟨c0, c1, r0, r1, f0, f1, hsz⟩ := kept2 hb1 (by simp))
    refine bodyPost_ret (v := .tuple #[.agg #[.slice none 0 0, .int .i64 0], .int .i64 11]) (by simp [results, Tryd.results17, go_sem, r0, r1]) rfl ?_
    exact ⟨_, _, rfl, OwnB.nil _ _, (((below_alloc2 _ _ _).trans (hb1.mono (by simp; omega))).setCell (by simp) _).setCell (by simp) _⟩
  · have HS := Lib.hid (show soundB l n = true by simpa using hs)
    have he : a < 0 ∨ b < a ∨ n < b := by
      apply Classical.byContradiction; intro he
      exact hk0 (by rw [← hk]; simp [cutSpec, hs, he])
    obtain rfl : k = 10 := by rw [← hk]; simp [cutSpec, hs, he]
    obtain ⟨m, rfl, hm8, -⟩ := sound_nat (show soundB l n = true by simpa using hs)
    clear hs hk
    have key : ∀ q q', decide (a < 0) = q → decide (b < a) = q' → (q = false → q' = false → (m : Int) < b) → 
        Calls Tryd.prog 17 #[.agg #[.slice A l.length c, .int .i64 m], .int .i64 a, .int .i64 b] w fun e w' =>
          ∃ A' c', e = .returned (.tuple #[.agg #[.slice A' 0 c', .int .i64 0], .int .i64 (10 : Nat)]) ∧ OwnB w' w.heap.size (.slice A' 0 c') [] ∧ Below w.heap.size w w' := by
      intro q q' h1 h2 h3
      cases q <;> cases q'
      all_goals
        try have hg := h3 rfl rfl
        clear h3 he
        go_enter Tryd.func17, Tryd.ntmps17
        go_wp2_with (go_at_call 23; refine (refSound_any A c l m _ hb0 hn hl).mono ?_; rw [HS.out]; rintro e w1 ⟨rfl, hb1⟩; obtain ⟨c0, c1, r0, r1, f0, f1, hsz⟩ := kept2 hb1 (by simp))
        refine bodyPost_ret (v := .tuple #[.agg #[.slice none 0 0, .int .i64 0], .int .i64 10]) (by simp [results, Tryd.results17, go_sem, r0, r1]) rfl ?_
        exact ⟨_, _, rfl, OwnB.nil _ _, (((below_alloc2 _ _ _).trans (hb1.mono (by simp; omega))).setCell (by simp) _).setCell (by simp) _⟩
    exact key _ _ rfl rfl (by simp; omega)

theorem refCut_any (A : Option Addr) (c : Nat) (l : List UInt8) (n a b : Int) (w : World) (hb : Bs w A l) (hn : -9223372036854775808 ≤ n ∧ n ≤ 9223372036854775807) (hl : l.length ≤ 1099511627776)
    (ha : -9223372036854775808 ≤ a ∧ a ≤ 9223372036854775807) (hwd : -9223372036854775808 ≤ b ∧ b ≤ 9223372036854775807) :
    Calls Tryd.prog 17 #[.agg #[.slice A l.length c, .int .i64 n], .int .i64 a, .int .i64 b] w fun e w' =>
      ∃ A' c', e = .returned (.tuple #[.agg #[.slice A' (cutSpec l n a b).1.length c', .int .i64 (cutSpec l n a b).2.1], .int .i64 (cutSpec l n a b).2.2]) ∧ OwnB w' w.heap.size (.slice A' (cutSpec l n a b).1.length c') (cutSpec l n a b).1 ∧ Below w.heap.size w w' := by
  by_cases h0 : (cutSpec l n a b).2.2 = 0
  · unfold cutSpec at h0
    split at h0
    · simp at h0
    · split at h0
      · simp at h0
      · rename_i hs he
        obtain ⟨m, rfl, hm8, -⟩ := sound_nat (show soundB l n = true by simpa using hs)
        obtain ⟨a, rfl⟩ := Int.eq_ofNat_of_zero_le (show 0 ≤ a by omega)
        obtain ⟨b, rfl⟩ := Int.eq_ofNat_of_zero_le (show 0 ≤ b by omega)
        rw [show cutSpec l m a b = (pack (cutl l a (b - a)), b - a, 0) from by simp only [cutSpec, if_neg hs, if_neg he, Int.toNat_natCast, show ((b : Int) - a).toNat = b - a by omega]]
        exact refCut_ok A c l m a b w hb hl (by simpa using hs) (by omega) (by omega)
  · have h1 : cutSpec l n a b = ([], 0, (cutSpec l n a b).2.2) := by
      unfold cutSpec at h0 ⊢
      split
      · rfl
      · split
        · rfl
        · rename_i hs he; simp [hs, he] at h0
    have h2 := refCut_err A c l n a b w hb hn hl ha hwd _ rfl h0
    rw [h1]
    exact h2

end Go.Proofs.YtfooggamdbdniaaDoor

/- The document's put of layer 3. -/
namespace Go.Proofs.YtfooggamdbdniaaDoor
open Go.RowKit

theorem xand_one_big (x : Nat) (hx : x < 18446744073709551616) : bits .and .u64 (x : Int) 1 = ((x % 2 : Nat) : Int) := by
  have h := bits_mask .u64 64 (by decide) (fun n h0 h1 => by simp [IntKind.wrap, IntKind.bits, IntKind.signed]; omega) 1 (by decide) (x : Int) (by omega) (by omega)
  rw [show ((2 : Int) ^ 1 - 1) = 1 from rfl] at h
  rw [h]; omega
theorem xbit_val (v k : Nat) (hv : v < 18446744073709551616) : Value.int .u8 (bits .and .u64 ((v : Int) / 2 ^ k) 1 % 256) = bv (b2u (v.testBit k)) := by
  rw [nat_shr, xand_one_big _ (Nat.lt_of_le_of_lt (Nat.div_le_self _ _) hv), shr_bit, bv, b2u_toNat]
  congr 1
  have := b2n_le (v.testBit k)
  omega
theorem xvalB_take (v n t : Nat) (ht : t < n) : (valB v n).take (t + 1) = (valB v n).take t ++ [v.testBit (n - 1 - t)] := by
  rw [List.take_succ_eq_append_getElem (by rw [valB_length]; exact ht)]
  simp [valB]

set_option maxRecDepth 100000 in
set_option maxHeartbeats 1000000 in
theorem rput_any (base : Nat) (V : Value) (M : List Bool) (v d : Nat) (w0 w : World) (tB : Below base w0 w) (hv : v < 18446744073709551616) (hd : d ≤ 64) (hown : OwnB w base V (u8s M)) (hM : M.length ≤ 100000) (hz : base ≤ w.heap.size) :
    Calls Tryd.prog 36 #[V, .int .u64 v, .int .i64 d] w fun e w' => ∃ A' n' c', e = .returned (.slice A' n' c') ∧ n' = (M ++ valB v d).length ∧ OwnB w' base (.slice A' n' c') (u8s (M ++ valB v d)) ∧ Below base w0 w' ∧ base ≤ w'.heap.size := by
  go_enter Tryd.func36, Tryd.ntmps36
  go_wp2_with fail
  go_loopw [0, 7] (fun vl i wr => ∃ j : Nat, j ≤ d ∧ i = .int .i64 ((j : Int) - 1) ∧ OwnB wr base vl (u8s (M ++ (valB v d).take (d - j))) ∧ Below base w0 wr ∧ base ≤ wr.heap.size)
    (fun _ i _ => (intOf i + 1).toNat)
  case atStart => exact ⟨d, Nat.le_refl _, by simp, by simpa using hown, tB, hz⟩
  case round =>
    obtain ⟨j, hj, rfl, ho, hbel, zr⟩ := hrel
    by_cases hlt : 0 < j
    · obtain ⟨i, rfl⟩ : ∃ i, j = i + 1 := ⟨j - 1, by omega⟩
      have HV := Lib.hid (xbit_val v i hv)
      rw [show ((i + 1 : Nat) : Int) - 1 = (i : Int) by omega]
      go_wp2_with (at_builtin; go_must (refine appB _ rfl (.tmp 14) (.tmp 21) rfl base _ _ rfl (ho.alloc _) wr.heap.size (b2u (v.testBit i)) rfl (box_cell _ _ _ _ _ (congrArg some HV.out)) (by rw [u8s_length, List.length_append, List.length_take, valB_length]; omega) (by simp; omega) ?_); intro g2 cap2 w3 hown3 hbel3)
      go_roundw
      case measure => simp [intOf]
      case rel =>
        refine ⟨i, by omega, rfl, ?_, (hbel.trans ((below_alloc wr _).mono zr)).trans hbel3, Nat.le_trans (by simp; omega) hbel3.size⟩
        rw [show d - i = (d - (i + 1)) + 1 by omega, xvalB_take _ _ _ (by omega), show d - 1 - (d - (i + 1)) = i by omega, ← List.append_assoc, u8s_snoc]; exact hown3
    · obtain rfl : j = 0 := by omega
      have ho2 := ho
      rw [show d - 0 = d by omega, List.take_of_length_le (by rw [valB_length]; exact Nat.le_refl _)] at ho2
      obtain ⟨A', c', hv9, _⟩ := ho2.isB
      subst hv9
      rw [show ((0 : Nat) : Int) - 1 = -1 by omega]
      go_wp2_with fail
      go_ret
      exact ⟨_, _, _, rfl, by rw [u8s_length], ho2, hbel, zr⟩

end Go.Proofs.YtfooggamdbdniaaDoor

/- The document's written of layer 3: first values, and values that are the same again. -/
namespace Go.Proofs.YtfooggamdbdniaaDoor
open Go.RowKit

theorem Blk.set4 {w : World} {g : Nat} {t : TypeId} {x y z u : Value} (h : Blk w g t #[x, y, z, u]) (a b c d : Value) : Blk ((((w.setCell ⟨g, 0, none⟩ a).setCell ⟨g, 1, none⟩ b).setCell ⟨g, 2, none⟩ c).setCell ⟨g, 3, none⟩ d) g t #[a, b, c, d] := by simpa using (((h.set 0 a).set 1 b).set 2 c).set 3 d
theorem below_set4 {w0 w : World} {B g : Nat} (h : Below B w0 w) (hg : B ≤ g) (a b c d : Value) : Below B w0 ((((w.setCell ⟨g, 0, none⟩ a).setCell ⟨g, 1, none⟩ b).setCell ⟨g, 2, none⟩ c).setCell ⟨g, 3, none⟩ d) :=
  (((h.setCell hg _).setCell hg _).setCell hg _).setCell hg _
theorem OwnB.far4 {w : World} {base : Nat} {v : Value} {l : List UInt8} (h : OwnB w base v l) {g : Nat} (hg : g < base) (a b c d : Value) : OwnB ((((w.setCell ⟨g, 0, none⟩ a).setCell ⟨g, 1, none⟩ b).setCell ⟨g, 2, none⟩ c).setCell ⟨g, 3, none⟩ d) base v l :=
  (((h.far (h.ne hg) _).far (h.ne hg) _).far (h.ne hg) _).far (h.ne hg) _
theorem Blk.quad {w : World} {g : Nat} {t : TypeId} {x y z u : Value} (h : Blk w g t #[x, y, z, u]) :
    (w.cell? ⟨g, 0, none⟩ = some x ∧ w.cell? ⟨g, 1, none⟩ = some y ∧ w.cell? ⟨g, 2, none⟩ = some z ∧ w.cell? ⟨g, 3, none⟩ = some u) ∧ (w.frozen? ⟨g, 0, none⟩ = false ∧ w.frozen? ⟨g, 1, none⟩ = false ∧ w.frozen? ⟨g, 2, none⟩ = false ∧ w.frozen? ⟨g, 3, none⟩ = false) :=
  ⟨⟨h.cell 0, h.cell 1, h.cell 2, h.cell 3⟩, h.frozen 0, h.frozen 1, h.frozen 2, h.frozen 3⟩

/-- the answer of written: a list of its own, and what is known then -/
def WrOut (s : XV) (v : Nat) (base : Nat) (e : Ending) (w : World) : Prop :=
  ∃ A n c, e = .returned (.tuple #[.slice A n c, .agg #[.bool (encX s v).2.has, .int .u64 (encX s v).2.prev, .int .u8 (encX s v).2.lead, .int .u8 (encX s v).2.width]]) ∧ n = (encX s v).1.length ∧ OwnB w base (.slice A n c) (u8s (encX s v).1)

set_option maxRecDepth 100000 in
set_option maxHeartbeats 2000000 in
theorem written_first (p l b v : Nat) (w : World) (hv : v < 18446744073709551616) :
    Calls Tryd.prog 24 #[.agg #[.bool false, .int .u64 p, .int .u8 l, .int .u8 b], .int .u64 v] w fun e w' => WrOut ⟨false, p, l, b⟩ v w.heap.size e w' ∧ Below w.heap.size w w' := by
  have hB : Blk ((w.alloc (.cells #[.bool false, .int .u64 p, .int .u8 l, .int .u8 b] 24)).alloc (.cells #[.bool false, .int .u64 0, .int .u8 0, .int .u8 0] 24)) (w.heap.size + 1) 24 #[.bool false, .int .u64 0, .int .u8 0, .int .u8 0] := by
    have := Blk.new (w.alloc (.cells #[.bool false, .int .u64 p, .int .u8 l, .int .u8 b] 24)) 24 #[.bool false, .int .u64 0, .int .u8 0, .int .u8 0]
    rwa [World.size_alloc] at this
  go_enter Tryd.func24, Tryd.ntmps24
  go_wp2_with (go_at_call 36; refine (rput_any (w.heap.size + 2) _ [] v 64 _ _ (Below.refl _ _) hv (by omega) (OwnB.nil _ _) (by simp) (by simp)).mono ?_; rintro e w1 ⟨A1, n1, c1, rfl, hn, o1, t1, z1⟩; have HB1 := Lib.hid (hB.below t1 (by omega)); obtain ⟨⟨r0, r1, r2, r3⟩, f0, f1, f2, f3⟩ := HB1.out.quad; have Hn := Lib.hid hn; clear hn hB)
  have hF := HB1.out.set4 (.bool true) (.int .u64 v) (.int .u8 0) (.int .u8 0)
  obtain ⟨⟨s0, s1, s2, s3⟩, -⟩ := hF.quad
  refine bodyPost_ret (v := .tuple #[.slice A1 n1 c1, .agg #[.bool true, .int .u64 v, .int .u8 0, .int .u8 0]]) (by simp [results, Tryd.results24, go_sem, s0, s1, s2, s3]) rfl ?_
  refine ⟨⟨A1, n1, c1, rfl, Hn.out, (o1.far4 (by omega) _ _ _ _).mono (by omega)⟩, ?_⟩
  exact below_set4 ((below_alloc2 w _ _).trans (t1.mono (by omega))) (by omega) _ _ _ _

end Go.Proofs.YtfooggamdbdniaaDoor

/- Appends as operations that make memory. -/
namespace Go.Proofs.YtfooggamdbdniaaDoor
open Go.RowKit
set_option maxRecDepth 100000

/-- all of x behind what v owns: the builtin's run -/
theorem run_appA (w : World) (ty : TypeId) (base : Nat) (v : Value) (L : List UInt8) (hown : OwnB w base v L) (A : Option Addr) (c : Nat) (l : List UInt8) (hb : Bs w A l) (hlen : L.length + l.length ≤ 140737488355328) (hbase : base ≤ w.heap.size) :
    ∃ v' w', (Builtin.append_ #[27, 27] ty #[v, .slice A l.length c]).run Tryd.prog w = .ok v' w' ∧ OwnB w' base v' (L ++ l) ∧ w.grownBy w' v.ownBlock := by
  obtain ⟨i, hi, hz, hsz, hby⟩ := info_parts Tryd.info_u8
  rcases A with _ | ad
  · have h0 : l = [] := by
      cases l with
      | nil => rfl
      | cons b l => obtain ⟨p, o, hA, _⟩ := hb 0 b rfl; cases hA
    subst h0
    exact ⟨v, w, run_app_nil w base 27 ty 5 i 1 Tryd.underlying27 hi _ _ _ hown c, by rw [List.append_nil]; exact hown, ⟨rfl, rfl, rfl, Nat.le_refl _, fun _ _ _ => rfl⟩⟩
  · obtain ⟨v', w', hrun, r1, r2, r3⟩ := run_append_own (P := Tryd.prog) w base 27 ty 5 i (.int .u8 0) 1 1 Tryd.underlying27 hi hz hsz hby rfl (by decide) v L.length (L.map bv) hown ad l.length c (l.map bv) (by simp)
      (fun j u hj => by
        rw [List.getElem?_map] at hj
        obtain ⟨b, hjb, rfl⟩ := Option.map_eq_some_iff.1 hj
        obtain ⟨p, o, hA, hc⟩ := hb j b hjb
        injection hA with e
        subst e
        unfold Addr.add
        split
        · rename_i h0; subst h0; simpa using hc
        · exact hc)
      (fun u hu => by
        obtain ⟨b, _, rfl⟩ := List.mem_map.1 hu
        rfl) (by unfold maxLen; omega) (by omega) hbase
    exact ⟨v', w', hrun, by unfold OwnB; rw [List.length_append, List.map_append]; exact r1, r2⟩

/-- 'append([]byte(nil), x...)' as an operation of a region that makes memory -/
theorem grow_appNil {o : Oper} {a : Act} {W : World} (s x : Operand) (ho : o.op = .call { callee := .builtin .append, args := #[s, x], argTypes := #[27, 27] })
    (hs : a.eval s = .slice none 0 0) (A : Option Addr) (n c : Nat) (l : List UInt8) (hx : a.eval x = .slice A n c) (hn : n = l.length) (hb : Bs W A l) (hlen : l.length ≤ 140737488355328) (base : Nat) (hbase : base ≤ W.heap.size) :
    growUpon Tryd.prog W (fun v z => ∃ A' c', v = .slice A' l.length c' ∧ OwnB z base v l) ((execOp a.eval o).run Tryd.prog W) := by
  subst hn
  obtain ⟨v', w', hrun, h1, h2⟩ := run_appA W o.type W.heap.size (.slice none 0 0) [] (OwnB.nil _ _) A c l hb (by simpa using hlen) (Nat.le_refl _)
  rw [List.nil_append] at h1
  have hB : Below W.heap.size W w' := own_grown (OwnB.nil W W.heap.size) h2 (Nat.le_refl _)
  obtain ⟨A', c', hv, _⟩ := h1.isB
  have hr : (execOp a.eval o).run Tryd.prog W = .ok (.value v') w' := by
    simp [execOp, ho, resolve, invoke, builtin, hs, hx, hrun, Result.andThen]
  rw [hr]
  exact ⟨hB, A', c', hv, h1.mono hbase⟩

/-- an operation whose run is known -/
theorem grow_val {P : Program} {o : Oper} {a : Act} {W w' : World} {R : Value → World → Prop} {v : Value} (hr : (execOp a.eval o).run P W = .ok (.value v) w') (hb : Below W.heap.size W w') (hR : R v w') : growUpon P W R ((execOp a.eval o).run P W) := by
  rw [hr]
  exact ⟨hb, hR⟩
/-- '[]byte{..}' as an operation of a region that makes memory -/
theorem grow_bytes {o : Oper} {a : Act} {W : World} (R : Value → World → Prop) (cs : List UInt8) (t : TypeId)
    (hr : (execOp a.eval o).run Tryd.prog W = .ok (.value (.slice (some ⟨W.heap.size, 0, none⟩) cs.length cs.length)) (W.alloc (.cells (cs.map bv).toArray t)))
    (hR : ∀ g z, Blk z g t (cs.map bv).toArray → R (.slice (some ⟨g, 0, none⟩) cs.length cs.length) z) : growUpon Tryd.prog W R ((execOp a.eval o).run Tryd.prog W) := by
  rw [hr]
  exact ⟨below_alloc _ _, hR _ _ (Blk.new W t _)⟩
theorem Blk.bs {w : World} {g : Nat} {t : TypeId} {l : List UInt8} (h : Blk w g t (l.map bv).toArray) : Bs w (some ⟨g, 0, none⟩) l := fun i b hi => by
  refine ⟨_, _, rfl, ?_⟩
  rw [Nat.zero_add, h.cell i]
  simp [hi]

end Go.Proofs.YtfooggamdbdniaaDoor

/- The document's written of layer 3: the same value again. -/
namespace Go.Proofs.YtfooggamdbdniaaDoor
open Go.RowKit

theorem xor_int (v p : Nat) (hv : v < 18446744073709551616) (hp : p < 18446744073709551616) : bits .xor .u64 (v : Int) (p : Int) = ((v ^^^ p : Nat) : Int) := by
  have hx : v ^^^ p < 2 ^ 64 := Nat.xor_lt_two_pow hv hp
  have h1 : (BitVec.ofInt 64 (v : Int)).toNat = v := by
    rw [BitVec.ofInt_natCast, BitVec.toNat_ofNat]; exact Nat.mod_eq_of_lt hv
  have h2 : (BitVec.ofInt 64 (p : Int)).toNat = p := by
    rw [BitVec.ofInt_natCast, BitVec.toNat_ofNat]; exact Nat.mod_eq_of_lt hp
  show IntKind.u64.wrap ((BitVec.ofInt 64 (v : Int) ^^^ BitVec.ofInt 64 (p : Int)).toNat : Int) = _
  rw [BitVec.toNat_xor, h1, h2]
  exact wrap_big _ hx

set_option maxRecDepth 100000 in
set_option maxHeartbeats 2000000 in
theorem written_same (l b v : Nat) (w : World) (hv : v < 18446744073709551616) :
    Calls Tryd.prog 24 #[.agg #[.bool true, .int .u64 v, .int .u8 l, .int .u8 b], .int .u64 v] w fun e w' => WrOut ⟨true, v, l, b⟩ v w.heap.size e w' ∧ Below w.heap.size w w' := by
  have hmx : Tryd.prog.follows .mixedOrders = true := by kernel_rfl
  have hx : bits .xor .u64 (v : Int) (v : Int) = 0 := by rw [xor_int v v hv hv, Nat.xor_self]; rfl
  have hB0 : Blk ((((w.alloc (.cells #[.bool true, .int .u64 v, .int .u8 l, .int .u8 b] 24)).alloc (.cells #[.bool false, .int .u64 0, .int .u8 0, .int .u8 0] 24)))) w.heap.size 24 #[.bool true, .int .u64 v, .int .u8 l, .int .u8 b] := (Blk.new w _ _).alloc _
  have hB1 : Blk ((w.alloc (.cells #[.bool true, .int .u64 v, .int .u8 l, .int .u8 b] 24)).alloc (.cells #[.bool false, .int .u64 0, .int .u8 0, .int .u8 0] 24)) (w.heap.size + 1) 24 #[.bool false, .int .u64 0, .int .u8 0, .int .u8 0] := by
    have := Blk.new (w.alloc (.cells #[.bool true, .int .u64 v, .int .u8 l, .int .u8 b] 24)) 24 #[.bool false, .int .u64 0, .int .u8 0, .int .u8 0]
    rwa [World.size_alloc] at this
  have tA := below_alloc2 w (.cells #[.bool true, .int .u64 v, .int .u8 l, .int .u8 b] 24) (.cells #[.bool false, .int .u64 0, .int .u8 0, .int .u8 0] 24)
  have zA : ((w.alloc (.cells #[.bool true, .int .u64 v, .int .u8 l, .int .u8 b] 24)).alloc (.cells #[.bool false, .int .u64 0, .int .u8 0, .int .u8 0] 24)).heap.size = w.heap.size + 2 := by simp
  have HB1 := Lib.hid hB1
  have HB0 := Lib.hid hB0
  have HtA := Lib.hid tA
  have HzA := Lib.hid zA
  clear hB0 hB1 tA zA
  go_enter Tryd.func24, Tryd.ntmps24
  go_wp2_with fail
  generalize (w.alloc (.cells #[.bool true, .int .u64 v, .int .u8 l, .int .u8 b] 24)).alloc (.cells #[.bool false, .int .u64 0, .int .u8 0, .int .u8 0] 24) = W at *
  have q : ∀ x, (plus W x).cell? ⟨w.heap.size, 0, none⟩ = some (.bool true) ∧ (plus W x).cell? ⟨w.heap.size, 1, none⟩ = some (.int .u64 v) ∧ (plus W x).cell? ⟨w.heap.size, 2, none⟩ = some (.int .u8 l) ∧ (plus W x).cell? ⟨w.heap.size, 3, none⟩ = some (.int .u8 b) := fun x =>
    ((HB0.out.below (plus_below W x) HB0.out.lt : Blk (plus W x) w.heap.size 24 #[.bool true, .int .u64 v, .int .u8 l, .int .u8 b])).quad.1
  refine wp_region_fresh_tail 5 [none, none, some 1] [1, 2] (fun k V z => if k = 1 then ∃ g, V = .slice (some ⟨g, 0, none⟩) 1 1 ∧ Bs z (some ⟨g, 0, none⟩) [0] else ∃ A' c', V = .slice A' 1 c' ∧ OwnB z (w.heap.size + 2) V [0]) hmx (by kernel_rfl) (by kernel_rfl) ?_
  simp only [List.take_succ_cons, List.take_zero, List.drop_succ_cons, List.drop_zero]
  refine walkF_one none W rfl (by kernel_rfl) ?_
  go_big_quiet_step (fail)
  refine wpQuiet_nil ?_
  refine walkF_make none W rfl rfl rfl (by kernel_rfl) (fun x => grow_bytes _ [0] 5 ?_ ?_) ?_
  · simp [execOp, go_sem]
    rfl
  · intro g z hb
    exact ⟨g, rfl, hb.bs⟩
  rintro V1 z1 ⟨g, rfl, hb1⟩ g1
  conv => arg 11; simp [Act.put]
  have zz : ∀ x, w.heap.size + 2 ≤ (plus z1 x).heap.size := fun x => by
    have h1 := HzA.out
    have h2 := Below.size g1
    have h3 := (plus_below z1 x).size
    omega
  refine walkF_make (some 1) z1 rfl rfl rfl (by kernel_rfl) (fun x => grow_appNil (.tmp 27) (.tmp 28) rfl rfl (some ⟨g, 0, none⟩) 1 1 [0] rfl rfl (hb1.below (plus_below z1 x)) (by simp) (w.heap.size + 2) (zz x)) ?_
  rintro V2 z2 ⟨A2, c2, rfl, o2⟩ g2
  conv => arg 11; simp [Act.put]
  iterate 2 (refine walkF_one none W rfl (by kernel_rfl) ?_; go_big_quiet_step (fail); refine wpQuiet_nil ?_)
  refine walkF_end ?_
  intro w' h0 hE
  have hE2 : Gr z2 w' := hE 2
  have o3 := o2.below hE2
  have HB := Lib.hid (HB1.out.below h0 HB1.out.lt : Blk w' (w.heap.size + 1) 24 #[.bool false, .int .u64 0, .int .u8 0, .int .u8 0])
  obtain ⟨⟨r0, r1, r2, r3⟩, f0, f1, f2, f3⟩ := HB.out.quad
  clear hE hE2 q zz o2 hb1
  go_wp2_with fail
  have hF := HB.out.set4 (.bool true) (.int .u64 v) (.int .u8 l) (.int .u8 b)
  obtain ⟨⟨s0, s1, s2, s3⟩, -⟩ := hF.quad
  have hW : WrOut ⟨true, v, l, b⟩ v w.heap.size (.returned (.tuple #[.slice A2 1 c2, .agg #[.bool true, .int .u64 v, .int .u8 l, .int .u8 b]])) ((((w'.setCell ⟨w.heap.size + 1, 0, none⟩ (.bool true)).setCell ⟨w.heap.size + 1, 1, none⟩ (.int .u64 v)).setCell ⟨w.heap.size + 1, 2, none⟩ (.int .u8 l)).setCell ⟨w.heap.size + 1, 3, none⟩ (.int .u8 b)) := by
    have he : encX ⟨true, v, l, b⟩ v = ([false], ⟨true, v, l, b⟩) := by
      unfold encX
      rw [if_neg (by simp), if_pos (Nat.xor_self _)]
    unfold WrOut
    rw [he]
    exact ⟨A2, 1, c2, rfl, rfl, (o3.far4 (by omega) _ _ _ _).mono (by omega)⟩
  refine bodyPost_ret (v := .tuple #[.slice A2 1 c2, .agg #[.bool true, .int .u64 v, .int .u8 l, .int .u8 b]]) (by simp [results, Tryd.results24, go_sem, s0, s1, s2, s3]) rfl ⟨hW, ?_⟩
  exact below_set4 (HtA.out.trans (Below.mono h0 (by have := HzA.out; omega))) (by omega) _ _ _ _

end Go.Proofs.YtfooggamdbdniaaDoor

/- The program's band of layer 3: holds, narrow. -/
namespace Go.Proofs.YtfooggamdbdniaaDoor
open Go.RowKit

theorem mask_val (b s : Nat) (h : b + s ≤ 64) : IntKind.u64.wrap (IntKind.u64.wrap (IntKind.u64.wrap (2 ^ b) - 1) * 2 ^ s) = (((2 ^ b - 1) * 2 ^ s : Nat) : Int) := by
  have hb : 2 ^ b ≤ 2 ^ 64 := Nat.pow_le_pow_right (by decide) (by omega)
  have hb1 : 1 ≤ 2 ^ b := Nat.one_le_two_pow
  have e0 : (2 : Int) ^ b = ((2 ^ b : Nat) : Int) := by rw [Int.natCast_pow]; rfl
  have e1 : IntKind.u64.wrap (IntKind.u64.wrap (2 ^ b) - 1) = ((2 ^ b - 1 : Nat) : Int) := by
    rw [e0]
    simp only [IntKind.wrap_u64]
    omega
  have e2 : (2 : Int) ^ s = ((2 ^ s : Nat) : Int) := by rw [Int.natCast_pow]; rfl
  rw [e1, e2, ← Int.natCast_mul]
  refine wrap_big _ ?_
  have h1 : (2 ^ b - 1) * 2 ^ s < 2 ^ b * 2 ^ s := Nat.mul_lt_mul_of_pos_right (by omega) (Nat.two_pow_pos s)
  rw [← Nat.pow_add] at h1
  exact Nat.lt_of_lt_of_le h1 (Nat.pow_le_pow_right (by decide) h)
theorem mask_bit (b s i : Nat) : ((2 ^ b - 1) * 2 ^ s).testBit i = (decide (s ≤ i) && decide (i < s + b)) := by
  rw [Nat.testBit_mul_two_pow, Nat.testBit_two_pow_sub_one]
  by_cases h : s ≤ i
  · rw [decide_eq_true h, Bool.true_and, Bool.true_and]
    congr 1
    rw [eq_iff_iff]; omega
  · rw [decide_eq_false h, Bool.false_and, Bool.false_and]
theorem andNot_zero (D M : Nat) (hD : D < 18446744073709551616) (hM : M < 18446744073709551616) : (bits .andNot .u64 (D : Int) (M : Int) = 0) ↔ ∀ i, D.testBit i = true → M.testBit i = true := by
  have e : bits .andNot .u64 (D : Int) (M : Int) = (((BitVec.ofNat 64 D &&& ~~~ BitVec.ofNat 64 M).toNat : Nat) : Int) := by
    show IntKind.u64.wrap ((BitVec.ofInt 64 (D : Int) &&& ~~~ BitVec.ofInt 64 (M : Int)).toNat : Int) = _
    rw [BitVec.ofInt_natCast, BitVec.ofInt_natCast]
    exact wrap_big _ (BitVec.isLt _)
  rw [e]
  have e2 : (((BitVec.ofNat 64 D &&& ~~~ BitVec.ofNat 64 M).toNat : Nat) : Int) = 0 ↔ BitVec.ofNat 64 D &&& ~~~ BitVec.ofNat 64 M = 0#64 := by
    rw [← BitVec.toNat_inj]
    simp only [BitVec.toNat_ofNat, Nat.zero_mod]
    omega
  rw [e2]
  constructor
  · intro h i hi
    have hi64 : i < 64 := by
      rcases Nat.lt_or_ge i 64 with h1 | h1
      · exact h1
      · rw [Nat.testBit_lt_two_pow (Nat.lt_of_lt_of_le hD (Nat.pow_le_pow_right (show 0 < 2 by decide) h1))] at hi
        cases hi
    have := congrArg (fun x : BitVec 64 => x.getLsbD i) h
    simp only [BitVec.getLsbD_and, BitVec.getLsbD_not, BitVec.getLsbD_ofNat, BitVec.getLsbD_zero, decide_eq_true hi64, Bool.true_and, hi] at this
    simpa using this
  · intro h
    apply BitVec.eq_of_getLsbD_eq
    intro i hi
    simp only [BitVec.getLsbD_and, BitVec.getLsbD_not, BitVec.getLsbD_ofNat, BitVec.getLsbD_zero, decide_eq_true hi, Bool.true_and]
    cases hd : D.testBit i
    · simp
    · rw [h i hd]; simp
theorem holds_mask (l b D : Nat) (hlb : l + b ≤ 64) (hD : D < 18446744073709551616) : (bits .andNot .u64 (D : Int) (IntKind.u64.wrap (IntKind.u64.wrap (IntKind.u64.wrap (2 ^ b) - 1) * 2 ^ (64 - l - b))) == 0) = holdsX l b D := by
  have hM : (2 ^ b - 1) * 2 ^ (64 - l - b) < 18446744073709551616 := by
    have h1 : (2 ^ b - 1) * 2 ^ (64 - l - b) < 2 ^ b * 2 ^ (64 - l - b) := Nat.mul_lt_mul_of_pos_right (by have := Nat.one_le_two_pow (n := b); omega) (Nat.two_pow_pos _)
    rw [← Nat.pow_add] at h1
    exact Nat.lt_of_lt_of_le h1 (Nat.pow_le_pow_right (show 0 < 2 by decide) (show b + (64 - l - b) ≤ 64 by omega))
  rw [mask_val b (64 - l - b) (by omega), Bool.eq_iff_iff, beq_iff_eq, andNot_zero D _ hD hM]
  unfold holdsX
  rw [decide_eq_true_eq]
  generalize hs : 64 - l - b = s
  have e : 64 - l = s + b := by omega
  rw [e]
  constructor
  · intro h
    constructor
    · apply Nat.eq_of_testBit_eq
      intro i
      rw [Nat.testBit_mod_two_pow, Nat.zero_testBit]
      by_cases hi : i < s
      · cases hd : D.testBit i
        · simp
        · have := h i hd
          rw [mask_bit, Bool.and_eq_true, decide_eq_true_eq] at this
          omega
      · simp [hi]
    · apply Nat.lt_pow_two_of_testBit
      intro i hi
      cases hd : D.testBit i
      · rfl
      · have := h i hd
        rw [mask_bit, Bool.and_eq_true, decide_eq_true_eq, decide_eq_true_eq] at this
        omega
  · rintro ⟨h1, h2⟩ i hi
    rw [mask_bit, Bool.and_eq_true, decide_eq_true_eq, decide_eq_true_eq]
    constructor
    · rcases Nat.lt_or_ge i s with hlt | hge
      · exfalso
        have := congrArg (fun x : Nat => x.testBit i) h1
        simp [Nat.testBit_mod_two_pow, hlt, hi] at this
      · exact hge
    · rcases Nat.lt_or_ge i (s + b) with hlt | hge
      · exact hlt
      · rw [Nat.testBit_lt_two_pow (Nat.lt_of_lt_of_le h2 (Nat.pow_le_pow_right (by decide) hge))] at hi
        cases hi

set_option maxRecDepth 100000 in
set_option maxHeartbeats 1000000 in
theorem holds_any (l b D : Nat) (w : World) (hlb : l + b ≤ 64) (hD : D < 18446744073709551616) :
    Calls Tryd.prog 33 #[.agg #[.int .i64 l, .int .i64 b], .int .u64 D] w fun e w' => e = .returned (.bool (holdsX l b D)) ∧ Below w.heap.size w w' := by
  have hmx : Tryd.prog.follows .mixedOrders = true := by kernel_rfl
  have hB := Blk.new w 50 #[.int .i64 l, .int .i64 b]
  have tB := below_alloc w (.cells #[.int .i64 l, .int .i64 b] 50)
  have l0 : (0 : Int) ≤ l := by omega
  have b0 : (0 : Int) ≤ b := by omega
  go_enter Tryd.func33, Tryd.ntmps33
  go_wp2_with fail
  generalize w.alloc (.cells #[.int .i64 l, .int .i64 b] 50) = W at *
  have qq : ∀ x, (plus W x).cell? ⟨w.heap.size, 0, none⟩ = some (.int .i64 l) ∧ (plus W x).cell? ⟨w.heap.size, 1, none⟩ = some (.int .i64 b) := fun x => (hB.below (plus_below W x) hB.lt : Blk (plus W x) w.heap.size 50 #[.int .i64 l, .int .i64 b]).duo.1
  refine wp_region_fresh [] [5] (fun _ v _ => v = .int .i64 (64 - (l : Int) - b)) hmx (by kernel_rfl) (by kernel_rfl) ?_
  iterate 5 (refine walkF_one none W rfl (by kernel_rfl) ?_; go_big_quiet_step (fail); refine wpQuiet_nil ?_)
  refine walkF_make none W rfl rfl rfl (by kernel_rfl) (fun x => ?_) ?_
  · refine grow_call ?_ ((behind_any l b (plus W x) (by omega) (by omega)).mono ?_)
    · simp [execOp, go_sem]
    · rintro e w4 ⟨rfl, b4⟩
      exact ⟨_, rfl, b4, rfl⟩
  rintro v z rfl gz
  conv => arg 11; simp [Act.put]
  iterate 2 (refine walkF_one none W rfl (by kernel_rfl) ?_; go_big_quiet_step (fail); refine wpQuiet_nil ?_)
  refine walkF_end ?_
  intro w' h0 hE
  clear hE qq
  go_wp2_with fail
  go_ret
  exact ⟨ret_bool (holds_mask l b D hlb hD), tB.trans (Below.mono h0 tB.size)⟩

end Go.Proofs.YtfooggamdbdniaaDoor
