/- The program's Open. -/
import Derived.Test.YtipbkfjmblkolaaStf3
namespace Go.Proofs.Ytipbkfjmblkolaa
open Go.RowKit

def Dec (c o : List UInt8) : Prop := ∃ f, decP f c = some o
theorem Dec.only {c o : List UInt8} (h : Dec c o) (hz : NoZ c) : encL o = c := h.elim fun f h => dec_only f c o hz h
theorem Dec.back (o : List UInt8) : Dec (encL o) o := ⟨_, dec_back _ o (Nat.le_refl _) _ (Nat.le_refl _)⟩
theorem not_dec_nil (o : List UInt8) : ¬ Dec [] o := fun ⟨f, h⟩ => by cases f <;> simp [decP] at h
theorem dec_step (n : UInt8) (t o : List UInt8) : Dec (n :: t) o ↔ n.toNat ≤ t.length + 1 ∧
    ((n.toNat ≤ 254 ∧ t.length + 1 = n.toNat ∧ o = t.take (n.toNat - 1)) ∨
     (n.toNat ≤ 254 ∧ t.length + 1 ≠ n.toNat ∧ ∃ o', Dec (t.drop (n.toNat - 1)) o' ∧ o = t.take (n.toNat - 1) ++ 0 :: o') ∨
     (254 < n.toNat ∧ t.length + 1 ≠ n.toNat ∧ ∃ o', Dec (t.drop (n.toNat - 1)) o' ∧ o = t.take (n.toNat - 1) ++ o')) := by
  constructor
  · rintro ⟨f, h⟩
    cases f with
    | zero => simp [decP] at h
    | succ f =>
      unfold decP at h
      by_cases h1 : t.length + 1 < n.toNat
      · rw [if_pos h1] at h; cases h
      · rw [if_neg h1] at h
        refine ⟨by omega, ?_⟩
        by_cases h2 : n.toNat ≤ 254
        · rw [if_pos h2] at h
          by_cases h3 : t.length + 1 = n.toNat
          · rw [if_pos h3] at h; injection h with h; exact .inl ⟨h2, h3, h.symm⟩
          · rw [if_neg h3] at h
            obtain ⟨o', h4, h5⟩ := Option.map_eq_some_iff.1 h
            exact .inr (.inl ⟨h2, h3, o', ⟨f, h4⟩, h5.symm⟩)
        · rw [if_neg h2] at h
          by_cases h3 : t.length + 1 = n.toNat
          · rw [if_pos h3] at h; cases h
          · rw [if_neg h3] at h
            obtain ⟨o', h4, h5⟩ := Option.map_eq_some_iff.1 h
            exact .inr (.inr ⟨by omega, h3, o', ⟨f, h4⟩, h5.symm⟩)
  · rintro ⟨h1, ⟨h2, h3, rfl⟩ | ⟨h2, h3, o', ⟨f, h4⟩, rfl⟩ | ⟨h2, h3, o', ⟨f, h4⟩, rfl⟩⟩
    · exact ⟨1, by unfold decP; rw [if_neg (by omega), if_pos h2, if_pos h3]⟩
    · exact ⟨f + 1, by unfold decP; rw [if_neg (by omega), if_pos h2, if_neg h3, h4]; rfl⟩
    · exact ⟨f + 1, by unfold decP; rw [if_neg (by omega), if_neg (by omega), if_neg h3, h4]; rfl⟩

theorem dec_go {n : UInt8} {t a O : List UInt8} (HD : ∀ o, Dec a o ↔ ∃ o', Dec (n :: t) o' ∧ o = O ++ o') (h1 : n.toNat ≤ t.length) (h2 : n.toNat ≤ 254) :
    ∀ o, Dec a o ↔ ∃ o', Dec (t.drop (n.toNat - 1)) o' ∧ o = (O ++ t.take (n.toNat - 1) ++ [0]) ++ o' := fun o => by
  rw [HD o]
  constructor
  · rintro ⟨o', h, rfl⟩
    rcases ((dec_step n t o').1 h).2 with ⟨_, h3, _⟩ | ⟨_, _, x, h4, rfl⟩ | ⟨h3, _⟩
    · omega
    · exact ⟨x, h4, by simp⟩
    · omega
  · rintro ⟨x, h4, rfl⟩
    exact ⟨_, (dec_step n t _).2 ⟨by omega, .inr (.inl ⟨h2, by omega, x, h4, rfl⟩)⟩, by simp⟩
theorem dec_full {n : UInt8} {t a O : List UInt8} (HD : ∀ o, Dec a o ↔ ∃ o', Dec (n :: t) o' ∧ o = O ++ o') (h1 : n.toNat ≤ t.length) (h2 : 254 < n.toNat) :
    ∀ o, Dec a o ↔ ∃ o', Dec (t.drop (n.toNat - 1)) o' ∧ o = (O ++ t.take (n.toNat - 1)) ++ o' := fun o => by
  rw [HD o]
  constructor
  · rintro ⟨o', h, rfl⟩
    rcases ((dec_step n t o').1 h).2 with ⟨h3, _⟩ | ⟨h3, _⟩ | ⟨_, _, x, h4, rfl⟩
    · omega
    · omega
    · exact ⟨x, h4, by simp⟩
  · rintro ⟨x, h4, rfl⟩
    exact ⟨_, (dec_step n t _).2 ⟨by omega, .inr (.inr ⟨h2, by omega, x, h4, rfl⟩)⟩, by simp⟩
theorem dec_end {n : UInt8} {t a O : List UInt8} (HD : ∀ o, Dec a o ↔ ∃ o', Dec (n :: t) o' ∧ o = O ++ o') (h1 : t.length + 1 = n.toNat) (h2 : n.toNat ≤ 254) : Dec a (O ++ t.take (n.toNat - 1)) :=
  (HD _).2 ⟨_, (dec_step n t _).2 ⟨by omega, .inl ⟨h2, h1, rfl⟩⟩, rfl⟩
theorem dec_bad {n : UInt8} {t a O : List UInt8} (HD : ∀ o, Dec a o ↔ ∃ o', Dec (n :: t) o' ∧ o = O ++ o') (h1 : t.length + 1 = n.toNat) (h2 : 254 < n.toNat) : ∀ o, ¬ Dec a o := fun o h => by
  obtain ⟨o', h', _⟩ := (HD o).1 h
  rcases ((dec_step n t o').1 h').2 with ⟨h3, _⟩ | ⟨h3, _⟩ | ⟨_, h3, _⟩ <;> omega

/-- Open's answer: the wrapped bytes that l begins with, if there are any -/
def OpenP (l : List UInt8) (base : Nat) (e : Ending) (w : World) : Prop :=
  ((∀ o r, l ≠ encL o ++ 0 :: r) ∧ e = .returned (.tuple #[.slice none 0 0, .int .i64 0, .int .u16 90])) ∨
  (∃ o r A n c, l = encL o ++ 0 :: r ∧ e = .returned (.tuple #[.slice A n c, .int .i64 (((encL o).length + 1 : Nat) : Int), .int .u16 0]) ∧ n = o.length ∧ OwnB w base (.slice A n c) o)
theorem OpenP.bad {l : List UInt8} {base : Nat} {w : World} (h : ∀ o r, l ≠ encL o ++ 0 :: r) : OpenP l base (.returned (.tuple #[.slice none 0 0, .int .i64 0, .int .u16 90])) w := .inl ⟨h, rfl⟩
theorem bad_miss {l : List UInt8} (h : NoZ l) : ∀ o r, l ≠ encL o ++ 0 :: r := fun o r e => h 0 (by rw [e]; simp) rfl
theorem bad_hit {l a r : List UInt8} (hl : l = a ++ 0 :: r) (hz : NoZ a) (h : ∀ o, ¬ Dec a o) : ∀ o r, l ≠ encL o ++ 0 :: r := fun o s e => by
  have := (first_zero (encL_noZ o) hz (e.symm.trans hl)).1
  exact h o (this ▸ Dec.back o)

set_option maxRecDepth 100000 in
set_option maxHeartbeats 2000000 in
theorem open_any (A : Option Addr) (c : Nat) (l : List UInt8) (w : World) (hl : Bs w A l) (hc : l.length ≤ c) (hn : l.length ≤ 100000) :
    Calls Try.prog 20 #[.slice A l.length c] w fun e w' => OpenP l w.heap.size e w' ∧ Below w.heap.size w w' := by
  have hbA := below_alloc w (.cells #[.int .u8 0] 5)
  have hbs0 : (w.alloc (.cells #[.int .u8 0] 5)).cell? ⟨w.heap.size, 0, none⟩ = some (.int .u8 0) := box_cell _ _ _ _ _ rfl
  rcases zero_cases l with hz | ⟨a, r, hz, hra⟩
  · have HB := Lib.hid (bad_miss hz)
    have Hcut := Lib.hid (cut_miss c w.heap.size 1 _ (hl.below hbA) hbs0 hz)
    clear hz hc hn
    go_enter Try.func20, Try.ntmps20
    go_wp2_with (go_at_call 28; refine Hcut.out.mono ?_; rintro e w1 ⟨rfl, rfl⟩)
    go_ret3
    exact ⟨.bad HB.out, hbA⟩
  · have hlen : l.length = a.length + 1 + r.length := by rw [hra]; simp; omega
    have Hcut := Lib.hid (cut_hit a r c w.heap.size 1 _ (hl.below hbA) hbs0 hra hz hc (by omega))
    rcases Nat.eq_zero_or_pos a.length with ha0 | hapos
    · have hae : a = [] := List.eq_nil_of_length_eq_zero ha0
      subst hae
      have HB := Lib.hid (bad_hit hra hz fun o => not_dec_nil o)
      clear hz hc hn hra hlen ha0
      go_enter Try.func20, Try.ntmps20
      go_wp2_with (go_at_call 28; refine Hcut.out.mono ?_; rintro e w1 ⟨A2, n2, rfl, _, rfl⟩)
      go_ret3
      exact ⟨.bad HB.out, ⟨hbA.os, hbA.tape, hbA.output, hbA.size, hbA.block⟩⟩
    · have d1 : decide ((a.length : Int) = 0) = false := decide_eq_false (by omega)
      have d2 : decide (a.length = 0) = false := decide_eq_false (by omega)
      have d3 : a.length ≠ 0 := by omega
      have d4 : ((a.length : Int) == 0) = false := beq_eq_false_iff_ne.2 (by omega)
      have e1 : IntKind.i64.wrap ((a.length : Int) + 1) = ((a.length + 1 : Nat) : Int) := by rw [IntKind.wrap_i64]; omega
      have hla : Bs w A a := by
        have := hl.take a.length
        rwa [hra, List.take_left] at this
      have hal : a.length ≤ 100000 := by omega
      have hac : a.length ≤ c := by omega
      have Hra := Lib.hid hra
      have Hz := Lib.hid hz
      have Hap := Lib.hid hapos
      have Hal := Lib.hid hal
      have Hac := Lib.hid hac
      clear hz hc hn hra hlen hapos hal hac
      obtain ⟨us, hus⟩ : ∃ us : Nat, us = a.length + 1 := ⟨_, rfl⟩
      rw [← hus] at e1
      have Hus := Lib.hid hus
      clear hus
      go_enter Try.func20, Try.ntmps20
      go_wp2_with (go_at_call 28; refine Hcut.out.mono ?_; rintro e w1 ⟨A2, n2, rfl, _, rfl⟩)
      have tB : Below w.heap.size w ((w.alloc (.cells #[.int .u8 0] 5)).drewN n2) := ⟨hbA.os, hbA.tape, hbA.output, hbA.size, hbA.block⟩
      generalize (w.alloc (.cells #[.int .u8 0] 5)).drewN n2 = W at *
      go_loopw [5, 9] (fun s0 s1 wr => ∃ (A' : Option Addr) (c' : Nat) (q : List UInt8) (V1 : Option Addr) (V2 : Nat) (O : List UInt8), s0 = .slice A' q.length c' ∧ s1 = .slice V1 O.length V2 ∧ q.length ≤ c' ∧ q.length ≤ 100000 ∧ Bs w A' q ∧ 0 < q.length ∧ Hid (NoZ q) ∧ OwnB wr w.heap.size (.slice V1 O.length V2) O ∧ O.length + q.length ≤ a.length ∧ Below w.heap.size w wr ∧ Hid (∀ o, Dec a o ↔ ∃ o', Dec q o' ∧ o = O ++ o'))
        (fun s0 _ _ => match s0 with | .slice _ n _ => n | _ => 0)
      case atStart => exact ⟨A, c, a, none, 0, [], rfl, rfl, Hac.out, Hal.out, hla, Hap.out, Hz, OwnB.nil _ _, by simp, tB, Lib.hid fun o => ⟨fun h => ⟨o, h, rfl⟩, fun ⟨o', h, e⟩ => by rw [e]; exact h⟩⟩
      case round =>
        obtain ⟨A', c', q, V1, V2, O, rfl, rfl, hqc, hqn, hqb, hqp, HQ, hown, hOq, tW, HD⟩ := hrel
        obtain ⟨n, t, rfl⟩ : ∃ n t, q = n :: t := by
          cases q with
          | nil => cases hqp
          | cons n t => exact ⟨n, t, rfl⟩
        obtain ⟨p, o, rfl, hcell⟩ := (hqb.belowB tW (Nat.le_refl _)) 0 n rfl
        unfold bv at hcell
        have hn0 : n ≠ 0 := HQ.out n List.mem_cons_self
        have hn1 : 1 ≤ n.toNat := by
          rcases Nat.eq_zero_or_pos n.toNat with h | h
          · exact absurd (UInt8.toNat_inj.1 h) hn0
          · exact h
        have hn2 : n.toNat < 256 := n.toNat_lt
        obtain ⟨m, hm⟩ : ∃ m, m = n.toNat := ⟨_, rfl⟩
        rw [← hm] at hcell hn1 hn2
        have hql : (n :: t).length = t.length + 1 := rfl
        rw [Nat.add_zero] at hcell
        have f1 : IntKind.i64.wrap (m : Int) = (m : Int) := by rw [IntKind.wrap_i64]; omega
        obtain ⟨k, hk⟩ : ∃ k, k = (n :: t).length := ⟨_, rfl⟩
        have hk0 : 0 < k := by omega
        have Hm := Lib.hid hm
        have Hk := Lib.hid hk
        have HqC := Lib.hid hqc
        have HOq := Lib.hid hOq
        have Hn1 := Lib.hid hn1
        rw [← hk]
        rcases Nat.lt_or_ge k m with hgt | hle
        · have g1 : decide ((k : Int) < (m : Int)) = true := by simp; omega
          have g2 : decide (k < m) = true := by simp; omega
          clear hm hk hqc hOq hn1 hn2 hn0 hql hqp
          go_wp2_with fail
          go_ret3
          refine ⟨.bad (bad_hit Hra.out Hz.out fun o h => ?_), tW⟩
          obtain ⟨o', h', _⟩ := (HD.out o).1 h
          have := ((dec_step n t o').1 h').1
          have := Hm.out
          have := Hk.out
          simp at this
          omega
        · have g1 : decide ((k : Int) < (m : Int)) = false := decide_eq_false (by omega)
          have g2 : decide (k < m) = false := decide_eq_false (by omega)
          have Hle := Lib.hid hle
          have hq1 : (t.take (m - 1)).length = m - 1 := by rw [List.length_take]; omega
          have hq2 : (t.drop (m - 1)).length = k - m := by rw [List.length_drop]; omega
          clear hm hk hqc hOq hn1 hn0 hql hqp hle
          have hkc : k ≤ c' := by have := HqC.out; rw [← Hk.out] at this; exact this
          have hmc : m ≤ c' := Nat.le_trans Hle.out hkc
          have Hkc := Lib.hid hkc
          have Hmc := Lib.hid hmc
          clear hkc hmc
          obtain ⟨j, hj⟩ : ∃ j, j = k - m := ⟨_, rfl⟩
          rw [← hj] at hq2
          obtain ⟨L3, HL3⟩ : ∃ L3, Hid (O.length + (t.take (m - 1)).length = L3) := ⟨_, Lib.hid rfl⟩
          obtain ⟨L4, HL4⟩ : ∃ L4, Hid ((O ++ t.take (m - 1)).length + 1 = L4) := ⟨_, Lib.hid rfl⟩
          have Hdm : Hid ((n :: t).drop m = t.drop (m - 1)) := Lib.hid (by
            have := Hn1.out
            obtain ⟨m', rfl⟩ : ∃ m', m = m' + 1 := ⟨m - 1, by omega⟩
            rfl)
          have hz3 : NoZ (t.drop (m - 1)) := fun x hx => HQ.out x (List.mem_cons_of_mem _ (List.mem_of_mem_drop hx))
          have HZ3 := Lib.hid hz3
          clear hz3
          rcases Nat.eq_zero_or_pos j with hj0 | hj0
          · subst hj0
            rcases Nat.lt_or_ge 254 m with hm1 | hm1
            · have m1 : decide ((m : Int) ≤ 254) = false := decide_eq_false (by omega)
              have m2 : decide (m ≤ 254) = false := decide_eq_false (by omega)
              have HB := Lib.hid (bad_hit Hra.out Hz.out (dec_bad HD.out (by have := Hk.out; have := Hm.out; have := Hle.out; simp at *; omega) (by rw [← Hm.out]; omega)))
              have Hj := Lib.hid hj
              clear hj
              go_wp2_with (first
            | (refine cutB _ rfl (.tmp 37) (.const (.int .i64 1)) (.tmp 38) rfl (some ⟨p, o, none⟩) k c' rfl (.inr ⟨_, _, rfl⟩) 1 m rfl rfl Hn1.out Hmc.out ?_; intro X1 hX1 _; have HX1 := Lib.hid hX1; clear hX1; simp [Act.put])
            | (at_builtin; refine appAll _ rfl (.tmp 36) (.tmp 39) rfl w.heap.size _ O rfl hown X1 (c' - 1) (t.take (m - 1)) (congrArg (fun k => Value.slice X1 k (c' - 1)) hq1.symm) (((HX1.out w (n :: t) hqb HqC.out).take (m - 1)).belowB tW (Nat.le_refl _)) (by have := HOq.out; have := Hal.out; have := Hle.out; have := Hk.out; rw [hq1]; omega) tW.size ?_; intro A3 c3 w3 o3 b3; rw [HL3.out] at o3 ⊢)
            | (refine cutBE _ rfl (.tmp 41) (.tmp 42) rfl (some ⟨p, o, none⟩) k c' rfl (.inr ⟨_, _, rfl⟩) m rfl Hle.out Hkc.out ?_; intro X2 hX2 _; have HX2 := Lib.hid hX2; clear hX2; rw [← Hj.out]; simp [Act.put])
            | (at_builtin; refine appB _ rfl (.tmp 52) (.tmp 53) rfl w.heap.size _ (O ++ t.take (m - 1)) rfl (o3.alloc _) w3.heap.size 0 rfl (box_cell _ _ _ _ _ rfl) (by have := HOq.out; have := Hal.out; have := Hle.out; have := Hk.out; rw [List.length_append, hq1]; omega) (by have := tW.size; have := b3.size; simp; omega) ?_; intro g4 c4 w4 o4 b4; rw [HL4.out] at o4 ⊢))
              go_ret3
              exact ⟨.bad HB.out, tW.trans b3⟩
            · have m1 : decide ((m : Int) ≤ 254) = true := decide_eq_true (by omega)
              have m2 : decide (m ≤ 254) = true := decide_eq_true (by omega)
              have HE := Lib.hid (dec_end HD.out (by have := Hk.out; have := Hm.out; have := Hle.out; simp at *; omega) (by rw [← Hm.out]; omega))
              have Hj := Lib.hid hj
              clear hj
              go_wp2_with (first
            | (refine cutB _ rfl (.tmp 37) (.const (.int .i64 1)) (.tmp 38) rfl (some ⟨p, o, none⟩) k c' rfl (.inr ⟨_, _, rfl⟩) 1 m rfl rfl Hn1.out Hmc.out ?_; intro X1 hX1 _; have HX1 := Lib.hid hX1; clear hX1; simp [Act.put])
            | (at_builtin; refine appAll _ rfl (.tmp 36) (.tmp 39) rfl w.heap.size _ O rfl hown X1 (c' - 1) (t.take (m - 1)) (congrArg (fun k => Value.slice X1 k (c' - 1)) hq1.symm) (((HX1.out w (n :: t) hqb HqC.out).take (m - 1)).belowB tW (Nat.le_refl _)) (by have := HOq.out; have := Hal.out; have := Hle.out; have := Hk.out; rw [hq1]; omega) tW.size ?_; intro A3 c3 w3 o3 b3; rw [HL3.out] at o3 ⊢)
            | (refine cutBE _ rfl (.tmp 41) (.tmp 42) rfl (some ⟨p, o, none⟩) k c' rfl (.inr ⟨_, _, rfl⟩) m rfl Hle.out Hkc.out ?_; intro X2 hX2 _; have HX2 := Lib.hid hX2; clear hX2; rw [← Hj.out]; simp [Act.put])
            | (at_builtin; refine appB _ rfl (.tmp 52) (.tmp 53) rfl w.heap.size _ (O ++ t.take (m - 1)) rfl (o3.alloc _) w3.heap.size 0 rfl (box_cell _ _ _ _ _ rfl) (by have := HOq.out; have := Hal.out; have := Hle.out; have := Hk.out; rw [List.length_append, hq1]; omega) (by have := tW.size; have := b3.size; simp; omega) ?_; intro g4 c4 w4 o4 b4; rw [HL4.out] at o4 ⊢))
              go_ret3
              refine ⟨.inr ⟨O ++ t.take (m - 1), r, A3, L3, c3, ?_, ?_, ?_, o3⟩, tW.trans b3⟩
              · have := HE.out; rw [← Hm.out] at this; rw [this.only Hz.out]; exact Hra.out
              · have := HE.out; rw [← Hm.out] at this; rw [this.only Hz.out, ← Hus.out]; rfl
              · rw [List.length_append]; exact HL3.out.symm
          · have j1 : decide ((0 : Int) < (j : Int)) = true := decide_eq_true (by omega)
            have j2 : decide (0 < j) = true := decide_eq_true (by omega)
            have j3 : decide ((j : Int) = 0) = false := decide_eq_false (by omega)
            have j4 : decide (j = 0) = false := decide_eq_false (by omega)
            have j5 : j ≠ 0 := by omega
            have j6 : ((j : Int) == 0) = false := beq_eq_false_iff_ne.2 (by omega)
            have hjt : m ≤ t.length := by have := Hk.out; have := Hle.out; simp at *; omega
            have Hjt := Lib.hid hjt
            have Hj := Lib.hid hj
            clear hj hjt
            rcases Nat.lt_or_ge 254 m with hm1 | hm1
            · have m1 : decide ((m : Int) ≤ 254) = false := decide_eq_false (by omega)
              have m2 : decide (m ≤ 254) = false := decide_eq_false (by omega)
              have HD2 := Lib.hid (dec_full HD.out (by rw [← Hm.out]; exact Hjt.out) (by rw [← Hm.out]; omega))
              go_wp2_with (first
            | (refine cutB _ rfl (.tmp 37) (.const (.int .i64 1)) (.tmp 38) rfl (some ⟨p, o, none⟩) k c' rfl (.inr ⟨_, _, rfl⟩) 1 m rfl rfl Hn1.out Hmc.out ?_; intro X1 hX1 _; have HX1 := Lib.hid hX1; clear hX1; simp [Act.put])
            | (at_builtin; refine appAll _ rfl (.tmp 36) (.tmp 39) rfl w.heap.size _ O rfl hown X1 (c' - 1) (t.take (m - 1)) (congrArg (fun k => Value.slice X1 k (c' - 1)) hq1.symm) (((HX1.out w (n :: t) hqb HqC.out).take (m - 1)).belowB tW (Nat.le_refl _)) (by have := HOq.out; have := Hal.out; have := Hle.out; have := Hk.out; rw [hq1]; omega) tW.size ?_; intro A3 c3 w3 o3 b3; rw [HL3.out] at o3 ⊢)
            | (refine cutBE _ rfl (.tmp 41) (.tmp 42) rfl (some ⟨p, o, none⟩) k c' rfl (.inr ⟨_, _, rfl⟩) m rfl Hle.out Hkc.out ?_; intro X2 hX2 _; have HX2 := Lib.hid hX2; clear hX2; rw [← Hj.out]; simp [Act.put])
            | (at_builtin; refine appB _ rfl (.tmp 52) (.tmp 53) rfl w.heap.size _ (O ++ t.take (m - 1)) rfl (o3.alloc _) w3.heap.size 0 rfl (box_cell _ _ _ _ _ rfl) (by have := HOq.out; have := Hal.out; have := Hle.out; have := Hk.out; rw [List.length_append, hq1]; omega) (by have := tW.size; have := b3.size; simp; omega) ?_; intro g4 c4 w4 o4 b4; rw [HL4.out] at o4 ⊢))
              go_roundw
              case rel =>
                have x1 := Hk.out
                have x2 := HOq.out
                have x3 := Hle.out
                have x4 := Hj.out
                have x5 := Hkc.out
                have x6 := Hn1.out
                refine ⟨X2, c' - m, t.drop (m - 1), A3, c3, O ++ t.take (m - 1), by rw [hq2], by rw [List.length_append, HL3.out], by rw [hq2]; omega, by rw [hq2]; omega, ?_, by rw [hq2]; omega, HZ3, ?_, ?_, tW.trans b3, ?_⟩
                · have := HX2.out w (n :: t) hqb HqC.out; rwa [Hdm.out] at this
                · rw [List.length_append, HL3.out]; exact o3
                · rw [List.length_append, hq1, hq2]; omega
                · have := HD2.out; rw [← Hm.out] at this; exact Lib.hid this
              case measure =>
                show j < k
                have := Hj.out; have := Hn1.out; have := Hle.out; omega
            · have m1 : decide ((m : Int) ≤ 254) = true := decide_eq_true (by omega)
              have m2 : decide (m ≤ 254) = true := decide_eq_true (by omega)
              have HD2 := Lib.hid (dec_go HD.out (by rw [← Hm.out]; exact Hjt.out) (by rw [← Hm.out]; omega))
              go_wp2_with (first
            | (refine cutB _ rfl (.tmp 37) (.const (.int .i64 1)) (.tmp 38) rfl (some ⟨p, o, none⟩) k c' rfl (.inr ⟨_, _, rfl⟩) 1 m rfl rfl Hn1.out Hmc.out ?_; intro X1 hX1 _; have HX1 := Lib.hid hX1; clear hX1; simp [Act.put])
            | (at_builtin; refine appAll _ rfl (.tmp 36) (.tmp 39) rfl w.heap.size _ O rfl hown X1 (c' - 1) (t.take (m - 1)) (congrArg (fun k => Value.slice X1 k (c' - 1)) hq1.symm) (((HX1.out w (n :: t) hqb HqC.out).take (m - 1)).belowB tW (Nat.le_refl _)) (by have := HOq.out; have := Hal.out; have := Hle.out; have := Hk.out; rw [hq1]; omega) tW.size ?_; intro A3 c3 w3 o3 b3; rw [HL3.out] at o3 ⊢)
            | (refine cutBE _ rfl (.tmp 41) (.tmp 42) rfl (some ⟨p, o, none⟩) k c' rfl (.inr ⟨_, _, rfl⟩) m rfl Hle.out Hkc.out ?_; intro X2 hX2 _; have HX2 := Lib.hid hX2; clear hX2; rw [← Hj.out]; simp [Act.put])
            | (at_builtin; refine appB _ rfl (.tmp 52) (.tmp 53) rfl w.heap.size _ (O ++ t.take (m - 1)) rfl (o3.alloc _) w3.heap.size 0 rfl (box_cell _ _ _ _ _ rfl) (by have := HOq.out; have := Hal.out; have := Hle.out; have := Hk.out; rw [List.length_append, hq1]; omega) (by have := tW.size; have := b3.size; simp; omega) ?_; intro g4 c4 w4 o4 b4; rw [HL4.out] at o4 ⊢))
              go_roundw
              case rel =>
                have x1 := Hk.out
                have x2 := HOq.out
                have x3 := Hle.out
                have x4 := Hj.out
                have x5 := Hkc.out
                have x6 := Hn1.out
                refine ⟨X2, c' - m, t.drop (m - 1), some ⟨g4, 0, none⟩, c4, O ++ t.take (m - 1) ++ [0], by rw [hq2], by rw [List.length_append, List.length_singleton, HL4.out], by rw [hq2]; omega, by rw [hq2]; omega, ?_, by rw [hq2]; omega, HZ3, ?_, ?_, (tW.trans b3).trans (((below_alloc w3 _).mono (Nat.le_trans tW.size b3.size)).trans b4), ?_⟩
                · have := HX2.out w (n :: t) hqb HqC.out; rwa [Hdm.out] at this
                · rw [List.length_append, List.length_singleton, HL4.out]; exact o4
                · rw [List.length_append, List.length_append, hq1, hq2, List.length_singleton]; omega
                · have := HD2.out; rw [← Hm.out] at this; exact Lib.hid this
              case measure =>
                show j < k
                have := Hj.out; have := Hn1.out; have := Hle.out; omega

end Go.Proofs.Ytipbkfjmblkolaa
