/- The document's own part and Wrap. -/
import Derived.Test.YtipbkfjmblkolaaStf1
namespace Go.Proofs.Ytipbkfjmblkolaa
open Go.RowKit

theorem Bs.belowB {w w' : World} {B : Nat} {A : Option Addr} {l : List UInt8} (h : Bs w A l) (hb : Below B w w') (hB : w.heap.size ≤ B) : Bs w' A l := fun i b hi => by
  obtain ⟨p, o, hA, hc⟩ := h i b hi
  exact ⟨p, o, hA, (hb.cell (Nat.lt_of_lt_of_le (cell_lt hc) hB)).trans hc⟩
theorem Bs.take {w : World} {A : Option Addr} {l : List UInt8} (h : Bs w A l) (k : Nat) : Bs w A (l.take k) := fun i b hi => h i b (by
  rw [List.getElem?_take] at hi
  split at hi
  · exact hi
  · cases hi)
/-- what is left behind a place, as a slice has it -/
theorem Bs.rest {w : World} {A : Option Addr} {l : List UInt8} (h : Bs w A l) (k c : Nat) (hc : l.length ≤ c) : Bs w (if c = k then A else A.map (·.add k)) (l.drop k) := by
  by_cases hk : c = k
  · rw [if_pos hk, List.drop_of_length_le (by omega)]; exact Bs.nil _ _
  · rw [if_neg hk]; exact h.tail k
theorem partE_len (p : List UInt8) : (partE p).length ≤ 2 * p.length + 1 := by
  have := partE_length _ p (Nat.le_refl _)
  omega

set_option maxRecDepth 100000 in
set_option maxHeartbeats 2000000 in
theorem part_any (base : Nat) (A : Option Addr) (c : Nat) (p : List UInt8) (v : Value) (L : List UInt8) (w0 w : World) (hp : Bs w0 A p) (h0 : w0.heap.size ≤ base) (t : Below base w0 w) (hb : base ≤ w.heap.size) (hc : p.length ≤ c) (hown : OwnB w base v L) (hL : L.length + 2 * p.length ≤ 1000000) :
    Calls Try.prog 29 #[v, .slice A p.length c] w fun e w' => ∃ A' c', e = .returned (.slice A' (L ++ partE p).length c') ∧ OwnB w' base (.slice A' (L ++ partE p).length c') (L ++ partE p) ∧ Below base w0 w' ∧ base ≤ w'.heap.size := by
  have hP := partE_len p
  obtain ⟨R, hR⟩ : ∃ R, R = L ++ partE p := ⟨_, rfl⟩
  have HPl : p.length ≤ 1000000 := by omega
  have hRl : R.length ≤ 1000001 := by rw [hR, List.length_append]; omega
  rw [← hR]
  have HR := Lib.hid hR
  have HRl := Lib.hid hRl
  clear hR hP hRl hL
  go_enter Try.func29, Try.ntmps29
  go_wp2_with fail
  go_loopw [0, 1] (fun s0 s1 wr => ∃ (v' : Value) (L' : List UInt8) (A' : Option Addr) (c' : Nat) (p' : List UInt8), s0 = v' ∧ s1 = .slice A' p'.length c' ∧ p'.length ≤ c' ∧ Bs w0 A' p' ∧ OwnB wr base v' L' ∧ Below base w0 wr ∧ base ≤ wr.heap.size ∧ Hid (R = L' ++ partE p') ∧ p'.length ≤ 1000000)
    (fun _ s _ => match s with | .slice _ n _ => n | _ => 0)
  case atStart => exact ⟨v, L, A, c, p, rfl, rfl, hc, hp, hown, t, hb, HR, HPl⟩
  case round =>
    obtain ⟨v', L', A', c', p', rfl, rfl, hc', hp', hown', t', hb', HR', hpl⟩ := hrel
    have hLl : L'.length ≤ 1000001 := by
      have := HRl.out
      rw [HR'.out, List.length_append] at this
      omega
    obtain ⟨V1, V2, rfl, _⟩ := hown'.isB
    rcases Nat.lt_or_ge 253 p'.length with hlt | hge
    · have d1 : decide ((253 : Int) < p'.length) = true := by simp; omega
      have d2 : decide (253 < p'.length) = true := by simp; omega
      have d3 : (254 : Int) ≤ p'.length := by omega
      have d4 : 254 ≤ p'.length := by omega
      have d5 : (254 : Int) ≤ c' := by omega
      have d6 : 254 ≤ c' := by omega
      have d7 : (p'.length : Int) ≤ c' := by omega
      have d8 : p'.length ≤ c' := hc'
      have Hlt := Lib.hid hlt
      have Hc' := Lib.hid hc'
      have Hpl := Lib.hid hpl
      have HLl := Lib.hid hLl
      clear hlt hc' hpl hLl
      obtain ⟨q, hq⟩ : ∃ q, q = p'.take 254 := ⟨_, rfl⟩
      have hql : q.length = 254 := by rw [hq, List.length_take]; omega
      have hrl : p'.length - 254 = (p'.drop 254).length := by rw [List.length_drop]
      obtain ⟨pb, po, rfl, _⟩ := hp' 0 (p'[0]'(by omega)) (List.getElem?_eq_getElem _)
      have tA := (t'.trans ((below_alloc wr (.cells #[.int .u8 255] 5)).mono hb'))
      go_wp2_with (at_builtin; first
        | (refine appB _ rfl (.tmp 8) (.tmp 9) rfl base _ L' rfl (hown'.alloc _) wr.heap.size 255 rfl (box_cell _ _ _ _ _ rfl) (by have := HLl.out; omega) (by simp; omega) ?_; intro g1 k1 w1 o1 b1; have z1 : base ≤ w1.heap.size := Nat.le_trans (by simp; omega) b1.size)
        | (refine appAll _ rfl (.tmp 11) (.tmp 13) rfl base _ (L' ++ [255]) rfl o1 (some ⟨pb, po, none⟩) c' q (congrArg (fun n => Value.slice (some ⟨pb, po, none⟩) n c') hql.symm) (by rw [hq]; exact (hp'.belowB (tA.trans b1) h0).take 254) (by have := HLl.out; simp; omega) z1 ?_; intro A2 c2 w2 o2 b2; have z2 : base ≤ w2.heap.size := Nat.le_trans z1 b2.size))
      have hrest := hp'.rest 254 c' Hc'.out
      have hfin : R = (L' ++ [255] ++ q) ++ partE (p'.drop 254) := by rw [HR'.out, partE_long d4, hq]; simp
      have hl3 : L'.length + 1 + 254 = (L' ++ [255] ++ q).length := by simp [hql]
      have o3 : OwnB w2 base (.slice A2 (L'.length + 1 + 254) c2) (L' ++ [255] ++ q) := by
        have e : L'.length + 1 + 254 = (L' ++ [255]).length + q.length := by simp [hql]
        rw [e]; exact o2
      obtain ⟨X, hX⟩ : ∃ X : Option Addr, X = if c' = 254 then some ⟨pb, po, none⟩ else some ⟨pb, po + 254, none⟩ := ⟨_, rfl⟩
      have hrX : Bs w0 X (p'.drop 254) := by
        have e : X = if c' = 254 then some ⟨pb, po, none⟩ else (some (⟨pb, po, none⟩ : Addr)).map (·.add 254) := hX
        rw [e]; exact hrest
      unfold Oper.wp
      simp [execOp, go_sem, d3, d4, d5, d6, d7, d8]
      rw [← hX]
      clear hX hrest
      rename_i K aK
      apply aK
      go_wp2_with fail
      go_roundw
      case rel => 
        rw [hrl]
        exact ⟨_, _, X, c' - 254, p'.drop 254, rfl, rfl, by rw [List.length_drop]; omega, hrX, o3, (tA.trans b1).trans b2, z2, Lib.hid hfin, by rw [List.length_drop]; have := Hpl.out; omega⟩
      case measure => 
        show p'.length - 254 < p'.length
        omega
    · have d1 : decide ((253 : Int) < p'.length) = false := by simp; omega
      have d2 : decide (253 < p'.length) = false := by simp; omega
      obtain ⟨z, hz⟩ : ∃ z : UInt8, z = UInt8.ofNat (p'.length + 1) := ⟨_, rfl⟩
      have hz1 : IntKind.i64.wrap ((p'.length : Int) + 1) = (p'.length : Int) + 1 := by rw [IntKind.wrap_i64]; omega
      have hz2 : IntKind.u8.wrap ((p'.length : Int) + 1) = (z.toNat : Int) := by
        have : z.toNat = p'.length + 1 := by rw [hz, UInt8.toNat_ofNat']; omega
        rw [this, IntKind.wrap_u8]; omega
      have hfin : R = (L' ++ [z]) ++ p' := by rw [HR'.out, partE_short (by omega), hz]; simp
      have hfl : R.length = (L' ++ [z]).length + p'.length := by rw [hfin, List.length_append]
      have tA := (t'.trans ((below_alloc wr (.cells #[.int .u8 z.toNat] 5)).mono hb'))
      have Hfin := Lib.hid hfin
      have Hfl := Lib.hid hfl
      have Hpl := Lib.hid hpl
      have HLl := Lib.hid hLl
      clear hfin hfl hpl hLl hz hge
      go_wp2_with (at_builtin; first
        | (refine appB _ rfl (.tmp 17) (.tmp 22) rfl base _ L' rfl (hown'.alloc _) wr.heap.size z rfl (box_cell _ _ _ _ _ rfl) (by have := HLl.out; omega) (by simp; omega) ?_; intro g1 k1 w1 o1 b1; have z1 : base ≤ w1.heap.size := Nat.le_trans (by simp; omega) b1.size)
        | (refine appAll _ rfl (.tmp 24) (.tmp 25) rfl base _ (L' ++ [z]) rfl o1 A' c' p' rfl (hp'.belowB (tA.trans b1) h0) (by have := HLl.out; have := Hpl.out; simp; omega) z1 ?_; intro A2 c2 w2 o2 b2; have z2 : base ≤ w2.heap.size := Nat.le_trans z1 b2.size))
      go_ret
      rw [Hfl.out]
      refine ⟨A2, c2, by simp, ?_, (tA.trans b1).trans b2, z2⟩
      rw [Hfin.out]; exact o2

end Go.Proofs.Ytipbkfjmblkolaa
