/- Joined: Stf1, Stf2, Stf3, Stf6. -/
import Derived.Test.YtiogckgchlnldaaGreatQ5
import Derived.Test.YtiogckgchlnldaaGreatQ1
import Derived.Outline
import Derived.Deep.DeepCutAuto
import Derived.Lib.BytesEntry
import Derived.Lib.Bytealg
import Derived.Laws.StandIn
set_option linter.unusedSimpArgs false
set_option linter.unusedVariables false
/- bytes.Cut at one byte that is nought; the document's own functions of layer 9. -/
namespace Go.Proofs.YtiogckgchlnldaaGreat
open Go.RowKit

theorem ixb_miss {l : List UInt8} (h : NoZ l) : Lib.indexByte l 0 = -1 := by
  induction l with
  | nil => rfl
  | cons b l ih =>
    unfold Lib.indexByte
    rw [ih fun x hx => h x (List.mem_cons_of_mem _ hx)]
    have hb : (b == 0) = false := beq_eq_false_iff_ne.2 (h b List.mem_cons_self)
    simp [hb]
theorem ixb_hit {a : List UInt8} (h : NoZ a) (r : List UInt8) : Lib.indexByte (a ++ 0 :: r) 0 = a.length := by
  induction a with
  | nil => rfl
  | cons b a ih =>
    show Lib.indexByte (b :: (a ++ 0 :: r)) 0 = _
    unfold Lib.indexByte
    rw [ih fun x hx => h x (List.mem_cons_of_mem _ hx)]
    have hb : (b == 0) = false := beq_eq_false_iff_ne.2 (h b List.mem_cons_self)
    rw [if_neg (by simp [hb]), if_neg (by simp), List.length_cons]
    rfl
theorem bytesOf_map (l : List UInt8) : Lib.bytesOf (l.map fun b => (b.toNat : Int)) = l := by
  unfold Lib.bytesOf
  rw [List.map_map]
  conv => rhs; rw [← List.map_id l]
  apply List.map_congr_left
  intro b _
  simp

theorem ixb_run {A : Option Addr} {l : List UInt8} (c : Nat) (w : World) (hb : Bs w A l) :
    (callFunc 103 #[.slice A l.length c, .int .u8 0]).run Tryz.prog w = .ok (.value (.int .i64 (Lib.indexByte l 0))) w := by
  rw [run_callFunc_indexByte Tryz.func103 (by kernel_rfl) (by kernel_rfl) (by kernel_rfl) (by kernel_rfl)]
  have key : (Extern.BytealgIndexByte.indexByte #[.slice A l.length c, .int .u8 0]).run Tryz.prog w = .ok (.int .i64 (Lib.indexByte l 0)) w := by
    rcases Nat.eq_zero_or_pos l.length with h0 | h0
    · have : l = [] := List.eq_nil_of_length_eq_zero h0
      subst this
      rcases A with _ | a
      · exact Lib.run_indexByteNil (P := Tryz.prog) (w := w) 0 c 0
      · exact Lib.run_indexByteNil (P := Tryz.prog) (w := w) 0 c 0
    · obtain ⟨p, o, rfl, _, hc⟩ := hb.at_ h0
      have h := Lib.run_indexByteSlice (P := Tryz.prog) (w := w) p o l.length c (l.map fun b => (b.toNat : Int)) (by simp) (fun i hi => by
        rw [hc i hi]
        unfold bv
        rw [List.getD_eq_getElem?_getD, List.getElem?_map, List.getElem?_eq_getElem hi]; rfl) 0
      rw [bytesOf_map] at h
      exact h
  rw [key]; rfl

set_option maxRecDepth 100000 in
theorem index_any {A : Option Addr} {l : List UInt8} (c q cs : Nat) (w : World) (hb : Bs w A l) (hs : w.cell? ⟨q, 0, none⟩ = some (.int .u8 0)) :
    Calls Tryz.prog 83 #[.slice A l.length c, .slice (some ⟨q, 0, none⟩) 1 cs] w fun e w' => e = .returned (.int .i64 (Lib.indexByte l 0)) ∧ w = w' := by
  have hx := ixb_run c w hb
  generalize Lib.indexByte l 0 = z at *
  go_enter Tryz.func83, Tryz.ntmps83
  go_wp2
  go_ret
  exact ⟨rfl, rfl⟩

set_option maxRecDepth 100000 in
theorem cut_miss {A : Option Addr} {l : List UInt8} (c q cs : Nat) (w : World) (hb : Bs w A l) (hs : w.cell? ⟨q, 0, none⟩ = some (.int .u8 0)) (hz : NoZ l) :
    Calls Tryz.prog 78 #[.slice A l.length c, .slice (some ⟨q, 0, none⟩) 1 cs] w fun e w' => e = .returned (.tuple #[.slice A l.length c, .slice none 0 0, .bool false]) ∧ w = w' := by
  have hix := index_any c q cs w hb hs
  rw [ixb_miss hz] at hix
  clear hz
  go_enter Tryz.func78, Tryz.ntmps78
  go_wp2_with fail
  refine hix.mono ?_
  rintro e w1 ⟨rfl, rfl⟩
  clear hix
  go_wp2_with fail
  go_ret3
  exact ⟨rfl, rfl⟩

/-- what is left behind a place -/
theorem Bs.tail {w : World} {A : Option Addr} {l : List UInt8} (hb : Bs w A l) (k : Nat) : Bs w (A.map (·.add k)) (l.drop k) := fun i b hi => by
  rw [List.getElem?_drop] at hi
  obtain ⟨p, o, rfl, hc⟩ := hb _ b hi
  refine ⟨p, o + k, ?_, by rw [Nat.add_assoc]; exact hc⟩
  show some (Addr.add ⟨p, o, none⟩ k) = _
  unfold Addr.add
  split
  · rename_i h0; subst h0; rfl
  · rfl

set_option maxRecDepth 100000 in
set_option maxHeartbeats 1000000 in
theorem cut_hit {A : Option Addr} {l : List UInt8} (a r : List UInt8) (c q cs : Nat) (w : World) (hb : Bs w A l) (hs : w.cell? ⟨q, 0, none⟩ = some (.int .u8 0)) (hl : l = a ++ 0 :: r) (hz : NoZ a) (hc : l.length ≤ c) (hm : l.length ≤ 1000000) :
    Calls Tryz.prog 78 #[.slice A l.length c, .slice (some ⟨q, 0, none⟩) 1 cs] w fun e w' => ∃ A2 n, e = .returned (.tuple #[.slice A a.length c, .slice A2 r.length (c - (a.length + 1)), .bool true]) ∧ (∀ w2, Bs w2 A l → Bs w2 A2 r) ∧ w' = w.drewN n := by
  have hix := index_any c q cs w hb hs
  rw [hl, ixb_hit hz r, ← hl] at hix
  have hlen : l.length = a.length + 1 + r.length := by rw [hl]; simp; omega
  have htail : ∀ w2, Bs w2 A l → Bs w2 (A.map (·.add (a.length + 1))) r := fun w2 h2 => by
    have htail := h2.tail (a.length + 1)
    rwa [hl, show a ++ 0 :: r = (a ++ [0]) ++ r by simp, List.drop_append_of_le_length (by simp), List.drop_of_length_le (by simp), List.nil_append] at htail
  have Htail := Lib.hid htail
  clear htail
  obtain ⟨p, o, rfl, _⟩ := hb a.length 0 (by rw [hl]; simp)
  have HL := Lib.hid hlen
  have HC := Lib.hid hc
  have k1 : (a.length : Int) ≤ c := by omega
  have k2 : (a.length : Int) + 1 ≤ c := by omega
  have k3 : (a.length : Int) ≤ l.length := by omega
  have k4 : (a.length : Int) + 1 ≤ l.length := by omega
  have k5 : (a.length : Int) ≤ 1000000 := by omega
  have n1 : a.length ≤ c := by omega
  have n2 : a.length + 1 ≤ c := by omega
  have n3 : a.length + 1 ≤ l.length := by omega
  have n4 : ((a.length : Int) + 1).toNat = a.length + 1 := by omega
  have n5 : l.length - (a.length + 1) = r.length := by omega
  have e1 : IntKind.i64.wrap ((a.length : Int) + 1) = (a.length : Int) + 1 := by rw [IntKind.wrap_i64]; omega
  clear hlen hl hz hc hm
  by_cases hcc : c = a.length + 1
  · have hr0 : r = [] := by
      have := HL.out
      have := HC.out
      exact List.eq_nil_of_length_eq_zero (by omega)
    have Hr0 := Lib.hid hr0
    clear hr0
    subst hcc
    go_enter Tryz.func78, Tryz.ntmps78
    go_wp2_with fail
    refine hix.mono ?_
    rintro e w1 ⟨rfl, rfl⟩
    clear hix
    go_wp2_with fail
    go_quiet (fail)
    go_wp2_with fail
    go_ret3
    refine ⟨some ⟨p, o, none⟩, nq, ?_, fun w2 _ => by rw [Hr0.out]; exact Bs.nil _ _, rfl⟩
    rw [Nat.sub_self]; rfl
  · go_enter Tryz.func78, Tryz.ntmps78
    go_wp2_with fail
    refine hix.mono ?_
    rintro e w1 ⟨rfl, rfl⟩
    clear hix
    go_wp2_with fail
    go_quiet (fail)
    go_wp2_with fail
    go_ret3
    have e2 : (some (⟨p, o, none⟩ : Addr)).map (·.add (a.length + 1)) = some ⟨p, o + (a.length + 1), none⟩ := by
      show some (Addr.add ⟨p, o, none⟩ (a.length + 1)) = _
      unfold Addr.add
      rw [if_neg (by omega)]
    have htail := Htail.out
    rw [e2] at htail
    exact ⟨_, _, rfl, htail, rfl⟩

end Go.Proofs.YtiogckgchlnldaaGreat

/- The document's own part and Wrap. -/
namespace Go.Proofs.YtiogckgchlnldaaGreat
open Go.RowKit

theorem Bs.belowB {w w' : World} {B : Nat} {A : Option Addr} {l : List UInt8} (h : Bs w A l) (hb : Below B w w') (hB : w.heap.size ≤ B) : Bs w' A l := fun i b hi => by
  obtain ⟨p, o, hA, hc⟩ := h i b hi
  exact ⟨p, o, hA, (hb.cell (Nat.lt_of_lt_of_le (cell_lt hc) hB)).trans hc⟩
theorem Bs.take {w : World} {A : Option Addr} {l : List UInt8} (h : Bs w A l) (k : Nat) : Bs w A (l.take k) := fun i b hi => h i b (by
  rw [List.getElem?_take] at hi
  split at hi
  · exact hi
  · cases hi)
/-- what is left behind a place, as a slice has it -/
theorem Bs.rest {w : World} {A : Option Addr} {l : List UInt8} (h : Bs w A l) (k c : Nat) (hc : l.length ≤ c) : Bs w (if c = k then A else A.map (·.add k)) (l.drop k) := by
  by_cases hk : c = k
  · rw [if_pos hk, List.drop_of_length_le (by omega)]; exact Bs.nil _ _
  · rw [if_neg hk]; exact h.tail k
theorem partE_len (p : List UInt8) : (partE p).length ≤ 2 * p.length + 1 := by
  have := partE_length _ p (Nat.le_refl _)
  omega

set_option maxRecDepth 100000 in
set_option maxHeartbeats 2000000 in
theorem part_any (base : Nat) (A : Option Addr) (c : Nat) (p : List UInt8) (v : Value) (L : List UInt8) (w0 w : World) (hp : Bs w0 A p) (h0 : w0.heap.size ≤ base) (t : Below base w0 w) (hb : base ≤ w.heap.size) (hc : p.length ≤ c) (hown : OwnB w base v L) (hL : L.length + 2 * p.length ≤ 1000000) :
    Calls Tryz.prog 70 #[v, .slice A p.length c] w fun e w' => ∃ A' c', e = .returned (.slice A' (L ++ partE p).length c') ∧ OwnB w' base (.slice A' (L ++ partE p).length c') (L ++ partE p) ∧ Below base w0 w' ∧ base ≤ w'.heap.size := by
  have hP := partE_len p
  obtain ⟨R, hR⟩ : ∃ R, R = L ++ partE p := ⟨_, rfl⟩
  have HPl : p.length ≤ 1000000 := by omega
  have hRl : R.length ≤ 1000001 := by rw [hR, List.length_append]; omega
  rw [← hR]
  have HR := Lib.hid hR
  have HRl := Lib.hid hRl
  clear hR hP hRl hL
  go_enter Tryz.func70, Tryz.ntmps70
  go_wp2_with fail
  go_loopw [0, 1] (fun s0 s1 wr => ∃ (v' : Value) (L' : List UInt8) (A' : Option Addr) (c' : Nat) (p' : List UInt8), s0 = v' ∧ s1 = .slice A' p'.length c' ∧ p'.length ≤ c' ∧ Bs w0 A' p' ∧ OwnB wr base v' L' ∧ Below base w0 wr ∧ base ≤ wr.heap.size ∧ Hid (R = L' ++ partE p') ∧ p'.length ≤ 1000000)
    (fun _ s _ => match s with | .slice _ n _ => n | _ => 0)
  case atStart => exact ⟨v, L, A, c, p, rfl, rfl, hc, hp, hown, t, hb, HR, HPl⟩
  case round =>
    obtain ⟨v', L', A', c', p', rfl, rfl, hc', hp', hown', t', hb', HR', hpl⟩ := hrel
    have hLl : L'.length ≤ 1000001 := by
      have := HRl.out
      rw [HR'.out, List.length_append] at this
      omega
    obtain ⟨V1, V2, rfl, _⟩ := hown'.isB
    rcases Nat.lt_or_ge 253 p'.length with hlt | hge
    · have d1 : decide ((253 : Int) < p'.length) = true := by simp; omega
      have d2 : decide (253 < p'.length) = true := by simp; omega
      have d3 : (254 : Int) ≤ p'.length := by omega
      have d4 : 254 ≤ p'.length := by omega
      have d5 : (254 : Int) ≤ c' := by omega
      have d6 : 254 ≤ c' := by omega
      have d7 : (p'.length : Int) ≤ c' := by omega
      have d8 : p'.length ≤ c' := hc'
      have Hlt := Lib.hid hlt
      have Hc' := Lib.hid hc'
      have Hpl := Lib.hid hpl
      have HLl := Lib.hid hLl
      clear hlt hc' hpl hLl
      obtain ⟨q, hq⟩ : ∃ q, q = p'.take 254 := ⟨_, rfl⟩
      have hql : q.length = 254 := by rw [hq, List.length_take]; omega
      have hrl : p'.length - 254 = (p'.drop 254).length := by rw [List.length_drop]
      obtain ⟨pb, po, rfl, _⟩ := hp' 0 (p'[0]'(by omega)) (List.getElem?_eq_getElem _)
      have tA := (t'.trans ((below_alloc wr (.cells #[.int .u8 255] 5)).mono hb'))
      go_wp2_with (at_builtin; first
        | (refine appB _ rfl (.tmp 8) (.tmp 9) rfl base _ L' rfl (hown'.alloc _) wr.heap.size 255 rfl (box_cell _ _ _ _ _ rfl) (by have := HLl.out; omega) (by simp; omega) ?_; intro g1 k1 w1 o1 b1; have z1 : base ≤ w1.heap.size := Nat.le_trans (by simp; omega) b1.size)
        | (refine appAll _ rfl (.tmp 11) (.tmp 13) rfl base _ (L' ++ [255]) rfl o1 (some ⟨pb, po, none⟩) c' q (congrArg (fun n => Value.slice (some ⟨pb, po, none⟩) n c') hql.symm) (by rw [hq]; exact (hp'.belowB (tA.trans b1) h0).take 254) (by have := HLl.out; simp; omega) z1 ?_; intro A2 c2 w2 o2 b2; have z2 : base ≤ w2.heap.size := Nat.le_trans z1 b2.size))
      have hrest := hp'.rest 254 c' Hc'.out
      have hfin : R = (L' ++ [255] ++ q) ++ partE (p'.drop 254) := by rw [HR'.out, partE_long d4, hq]; simp
      have hl3 : L'.length + 1 + 254 = (L' ++ [255] ++ q).length := by simp [hql]
      have o3 : OwnB w2 base (.slice A2 (L'.length + 1 + 254) c2) (L' ++ [255] ++ q) := by
        have e : L'.length + 1 + 254 = (L' ++ [255]).length + q.length := by simp [hql]
        rw [e]; exact o2
      obtain ⟨X, hX⟩ : ∃ X : Option Addr, X = if c' = 254 then some ⟨pb, po, none⟩ else some ⟨pb, po + 254, none⟩ := ⟨_, rfl⟩
      have hrX : Bs w0 X (p'.drop 254) := by
        have e : X = if c' = 254 then some ⟨pb, po, none⟩ else (some (⟨pb, po, none⟩ : Addr)).map (·.add 254) := hX
        rw [e]; exact hrest
      unfold Oper.wp
      simp [execOp, go_sem, d3, d4, d5, d6, d7, d8]
      rw [← hX]
      clear hX hrest
      rename_i K aK
      apply aK
      go_wp2_with fail
      go_roundw
      case rel => 
        rw [hrl]
        exact ⟨_, _, X, c' - 254, p'.drop 254, rfl, rfl, by rw [List.length_drop]; omega, hrX, o3, (tA.trans b1).trans b2, z2, Lib.hid hfin, by rw [List.length_drop]; have := Hpl.out; omega⟩
      case measure => 
        show p'.length - 254 < p'.length
        omega
    · have d1 : decide ((253 : Int) < p'.length) = false := by simp; omega
      have d2 : decide (253 < p'.length) = false := by simp; omega
      obtain ⟨z, hz⟩ : ∃ z : UInt8, z = UInt8.ofNat (p'.length + 1) := ⟨_, rfl⟩
      have hz1 : IntKind.i64.wrap ((p'.length : Int) + 1) = (p'.length : Int) + 1 := by rw [IntKind.wrap_i64]; omega
      have hz2 : IntKind.u8.wrap ((p'.length : Int) + 1) = (z.toNat : Int) := by
        have : z.toNat = p'.length + 1 := by rw [hz, UInt8.toNat_ofNat']; omega
        rw [this, IntKind.wrap_u8]; omega
      have hfin : R = (L' ++ [z]) ++ p' := by rw [HR'.out, partE_short (by omega), hz]; simp
      have hfl : R.length = (L' ++ [z]).length + p'.length := by rw [hfin, List.length_append]
      have tA := (t'.trans ((below_alloc wr (.cells #[.int .u8 z.toNat] 5)).mono hb'))
      have Hfin := Lib.hid hfin
      have Hfl := Lib.hid hfl
      have Hpl := Lib.hid hpl
      have HLl := Lib.hid hLl
      clear hfin hfl hpl hLl hz hge
      go_wp2_with (at_builtin; first
        | (refine appB _ rfl (.tmp 17) (.tmp 22) rfl base _ L' rfl (hown'.alloc _) wr.heap.size z rfl (box_cell _ _ _ _ _ rfl) (by have := HLl.out; omega) (by simp; omega) ?_; intro g1 k1 w1 o1 b1; have z1 : base ≤ w1.heap.size := Nat.le_trans (by simp; omega) b1.size)
        | (refine appAll _ rfl (.tmp 24) (.tmp 25) rfl base _ (L' ++ [z]) rfl o1 A' c' p' rfl (hp'.belowB (tA.trans b1) h0) (by have := HLl.out; have := Hpl.out; simp; omega) z1 ?_; intro A2 c2 w2 o2 b2; have z2 : base ≤ w2.heap.size := Nat.le_trans z1 b2.size))
      go_ret
      rw [Hfl.out]
      refine ⟨A2, c2, by simp, ?_, (tA.trans b1).trans b2, z2⟩
      rw [Hfin.out]; exact o2

end Go.Proofs.YtiogckgchlnldaaGreat

/- A slice of bytes cut by variables; the document's Wrap. -/
namespace Go.Proofs.YtiogckgchlnldaaGreat
open Go.RowKit

theorem run_cut_some (w : World) (p f n c i j : Nat) (hij : i ≤ j) (hj : j ≤ c) : (Instr.sliceAt 22 (.slice (some ⟨p, f, none⟩) n c) (some (.int .i64 i)) (some (.int .i64 j)) none).run Tryz.prog w = .ok (.slice (if c = i then some ⟨p, f, none⟩ else some ⟨p, f + i, none⟩) (j - i) (c - i)) w := by
  simp [go_sem, hij, hj]

/-- a slice's address as slices have it -/
def Fm (A : Option Addr) (c : Nat) : Prop := c = 0 ∨ ∃ p f, A = some ⟨p, f, none⟩

theorem Bs.cutAt {w : World} {p f c : Nat} {l : List UInt8} (h : Bs w (some ⟨p, f, none⟩) l) (i : Nat) (hc : l.length ≤ c) : Bs w (if c = i then some ⟨p, f, none⟩ else some ⟨p, f + i, none⟩) (l.drop i) := by
  have := h.rest i c hc
  by_cases h0 : c = i
  · rw [if_pos h0] at this ⊢; exact this
  · rw [if_neg h0] at this ⊢
    have e : (some (⟨p, f, none⟩ : Addr)).map (·.add i) = some ⟨p, f + i, none⟩ := by
      show some (Addr.add ⟨p, f, none⟩ i) = _
      unfold Addr.add
      split
      · rename_i h1; subst h1; rfl
      · rfl
    rw [e] at this; exact this

/-- 'x[i:j]' of bytes -/
theorem cutB (w : World) {ops : Array Oper} {rest : List Oper} {o : Oper} {a : Act} {Q : Exit → Act → World → Prop} (hgd : o.guard = none) (t lo hi : Operand)
    (ho : o.op = .slice 22 t (some lo) (some hi) none) (A : Option Addr) (n c : Nat) (ht : a.eval t = .slice A n c) (hA : Fm A c) (i j : Nat) (hlo : a.eval lo = .int .i64 i) (hhi : a.eval hi = .int .i64 j)
    (hij : i ≤ j) (hj : j ≤ c)
    (h : ∀ X, (∀ w' l, Bs w' A l → l.length ≤ c → Bs w' X (l.drop i)) → Fm X (c - i) → wpList Tryz.prog ops Q rest (a.put o.dst (.slice X (j - i) (c - i))) w) : wpList Tryz.prog ops Q (o :: rest) a w := by
  refine wpList_plain hgd fun K hK => ?_
  unfold Oper.wp
  obtain ⟨X, hr, h1, h2⟩ : ∃ X, (Instr.sliceAt 22 (.slice A n c) (some (.int .i64 i)) (some (.int .i64 j)) none).run Tryz.prog w = .ok (.slice X (j - i) (c - i)) w ∧ (∀ w' l, Bs w' A l → l.length ≤ c → Bs w' X (l.drop i)) ∧ Fm X (c - i) := by
    rcases hA with rfl | ⟨p, f, rfl⟩
    · obtain rfl : j = 0 := by omega
      obtain rfl : i = 0 := by omega
      exact ⟨A, by rcases A with _ | ⟨p, f, b⟩ <;> simp [go_sem], fun w' l hb _ => hb, .inl rfl⟩
    · exact ⟨_, run_cut_some w p f n c i j hij hj, fun w' l hb hc => hb.cutAt i hc, .inr (by split <;> exact ⟨_, _, rfl⟩)⟩
  simp [execOp, ho, ht, hlo, hhi, hr, Result.andThen]
  exact hK _ _ (h X h1 h2)
/-- 'x[i:]' of bytes -/
theorem cutBE (w : World) {ops : Array Oper} {rest : List Oper} {o : Oper} {a : Act} {Q : Exit → Act → World → Prop} (hgd : o.guard = none) (t lo : Operand)
    (ho : o.op = .slice 22 t (some lo) none none) (A : Option Addr) (n c : Nat) (ht : a.eval t = .slice A n c) (hA : Fm A c) (i : Nat) (hlo : a.eval lo = .int .i64 i)
    (hij : i ≤ n) (hj : n ≤ c)
    (h : ∀ X, (∀ w' l, Bs w' A l → l.length ≤ c → Bs w' X (l.drop i)) → Fm X (c - i) → wpList Tryz.prog ops Q rest (a.put o.dst (.slice X (n - i) (c - i))) w) : wpList Tryz.prog ops Q (o :: rest) a w := by
  refine wpList_plain hgd fun K hK => ?_
  unfold Oper.wp
  obtain ⟨X, hr, h1, h2⟩ : ∃ X, (Instr.sliceAt 22 (.slice A n c) (some (.int .i64 i)) none none).run Tryz.prog w = .ok (.slice X (n - i) (c - i)) w ∧ (∀ w' l, Bs w' A l → l.length ≤ c → Bs w' X (l.drop i)) ∧ Fm X (c - i) := by
    rcases hA with rfl | ⟨p, f, rfl⟩
    · obtain rfl : n = 0 := by omega
      obtain rfl : i = 0 := by omega
      exact ⟨A, by rcases A with _ | ⟨p, f, b⟩ <;> simp [go_sem], fun w' l hb _ => hb, .inl rfl⟩
    · exact ⟨if c = i then some ⟨p, f, none⟩ else some ⟨p, f + i, none⟩, by simp [go_sem, hij, hj], fun w' l hb hc => hb.cutAt i hc, .inr (by split <;> exact ⟨_, _, rfl⟩)⟩
  simp [execOp, ho, ht, hlo, hr, Result.andThen]
  exact hK _ _ (h X h1 h2)

theorem encL_len (l : List UInt8) : (encL l).length ≤ 2 * l.length + 1 := by
  have := encL_length _ l (Nat.le_refl _)
  omega
theorem noz_snoc {l : List UInt8} {f i : Nat} (h : NoZ ((l.drop f).take (i - f))) (hfi : f ≤ i) (hi : i < l.length) (hz : l[i] ≠ 0) : NoZ ((l.drop f).take (i + 1 - f)) := by
  have e : i + 1 - f = (i - f) + 1 := by omega
  rw [e, List.take_add_one]
  intro x hx
  rcases List.mem_append.1 hx with h1 | h1
  · exact h x h1
  · rw [List.getElem?_drop, show f + (i - f) = i by omega, List.getElem?_eq_getElem hi] at h1
    simp at h1
    rw [h1]; exact hz
theorem drop_hit {l : List UInt8} {f i : Nat} (hfi : f ≤ i) (hi : i < l.length) (hz : l[i] = 0) : l.drop f = (l.drop f).take (i - f) ++ 0 :: l.drop (i + 1) := by
  conv => lhs; rw [← List.take_append_drop (i - f) (l.drop f)]
  rw [List.drop_drop, show f + (i - f) = i by omega, List.drop_eq_getElem_cons hi, hz]

set_option maxRecDepth 100000 in
set_option maxHeartbeats 2000000 in
/-- the document's Wrap -/
theorem refWrap_any (A : Option Addr) (c : Nat) (l : List UInt8) (w : World) (hl : Bs w A l) (hA : Fm A c) (hc : l.length ≤ c) (hn : l.length ≤ 200000) :
    Calls Tryz.prog 61 #[.slice A l.length c] w fun e w' => ∃ A' n' c', e = .returned (.slice A' n' c') ∧ n' = (wrapL l).length ∧ OwnB w' w.heap.size (.slice A' n' c') (wrapL l) ∧ Below w.heap.size w w' := by
  obtain ⟨R, hR⟩ : ∃ R, R = encL l := ⟨_, rfl⟩
  have hRl : R.length ≤ 400001 := by have := encL_len l; rw [hR]; omega
  show Calls _ _ _ _ fun e w' => ∃ A' n' c', e = .returned (.slice A' n' c') ∧ n' = (encL l ++ [0]).length ∧ OwnB w' w.heap.size (.slice A' n' c') (encL l ++ [0]) ∧ Below w.heap.size w w'
  rw [← hR]
  have HR := Lib.hid hR
  have HRl := Lib.hid hRl
  have Hn := Lib.hid hn
  clear hR hRl hn
  go_enter Tryz.func61, Tryz.ntmps61
  go_wp2_with fail
  go_loopw [3, 4, 5] (fun s0 s1 s2 wr => ∃ (V1 : Option Addr) (V2 : Nat) (L' : List UInt8) (f i : Nat), s0 = .slice V1 L'.length V2 ∧ s1 = .int .i64 f ∧ s2 = .int .i64 i ∧ f ≤ i ∧ i ≤ l.length ∧ OwnB wr w.heap.size (.slice V1 L'.length V2) L' ∧ Below w.heap.size w wr ∧ Hid (NoZ ((l.drop f).take (i - f))) ∧ Hid (R = L' ++ encL (l.drop f)))
    (fun _ _ s _ => l.length - (intOf s).toNat)
  case atStart => exact ⟨none, 0, [], 0, 0, rfl, rfl, rfl, Nat.le_refl _, Nat.zero_le _, OwnB.nil _ _, Below.refl _ _, Lib.hid (by simp [NoZ]), Lib.hid (by rw [HR.out]; rfl)⟩
  case round =>
    obtain ⟨V1, V2, L', f, i, rfl, rfl, rfl, hfi, hil, hown', t', HZ, HR'⟩ := hrel
    have hLl : L'.length ≤ 400001 := by
      have := HRl.out
      rw [HR'.out, List.length_append] at this
      omega
    have HLl := Lib.hid hLl
    have Hfi := Lib.hid hfi
    have n1 : i < 2 ^ 62 := by have := Hn.out; omega
    clear hLl
    rcases Nat.lt_or_ge i l.length with hlt | hge
    · have d1 : decide ((i : Int) < l.length) = true := by simp; omega
      have d2 : decide (i < l.length) = true := by simp; omega
      have e1 : IntKind.i64.wrap ((i : Int) + 1) = ((i + 1 : Nat) : Int) := by rw [IntKind.wrap_i64]; omega
      have hlw := hl.belowB t' (Nat.le_refl _)
      obtain ⟨p, o, rfl, hcell⟩ := hlw i l[i] (List.getElem?_eq_getElem hlt)
      unfold bv at hcell
      by_cases hz : l[i] = 0
      · have d3 : decide ((l[i].toNat : Int) = 0) = true := by rw [hz]; rfl
        have HH := Lib.hid (drop_hit hfi hlt hz)
        rw [hz] at hcell
        clear d3
        go_wp2_with fail
        obtain ⟨q, hq⟩ : ∃ q, q = (l.drop f).take (i - f) := ⟨_, rfl⟩
        have hql : q.length = i - f := by rw [hq, List.length_take, List.length_drop]; omega
        have hqb : Bs w (some ⟨p, o + f, none⟩) q := by
          have := hl.cutAt f hc
          rw [if_neg (by omega)] at this
          rw [hq]; exact this.take _
        have hRq : R = (L' ++ partE q) ++ encL (l.drop (i + 1)) := by
          rw [HR'.out, HH.out, encL_app (by have := HZ.out; exact this), ← hq, List.append_assoc]
        rw [← hql]
        refine (part_any w.heap.size _ _ q _ L' w wr hqb (Nat.le_refl _) t' t'.size (by omega) hown' (by have := HLl.out; have := Hn.out; omega)).mono ?_
        rintro e w2 ⟨A2, c2, rfl, o2, t2, z2⟩
        clear hq hql
        go_wp2_with fail
        go_roundw
        case rel =>
          refine ⟨A2, c2, L' ++ partE q, i + 1, i + 1, (by rw [List.length_append]), rfl, rfl, Nat.le_refl _, hlt, o2, t2, Lib.hid (by simp [NoZ]), Lib.hid hRq⟩
        case measure =>
          show l.length - (((i + 1 : Nat) : Int)).toNat < l.length - ((i : Nat) : Int).toNat
          omega
      · have hz0 : l[i].toNat ≠ 0 := fun h => hz (UInt8.toNat_inj.1 h)
        have d3 : decide ((l[i].toNat : Int) = 0) = false := by simp; exact hz0
        have HZ2 := Lib.hid (noz_snoc HZ.out hfi hlt hz)
        obtain ⟨x, hx⟩ : ∃ x, x = l[i].toNat := ⟨_, rfl⟩
        rw [← hx] at hcell d3 hz0
        clear hx hz
        have d4 : decide (x = 0) = false := by simp; exact hz0
        go_wp2_with fail
        go_roundw
        case rel =>
          exact ⟨V1, V2, L', f, i + 1, rfl, rfl, rfl, Nat.le_succ_of_le hfi, hlt, hown', t', HZ2, HR'⟩
        case measure =>
          show l.length - (((i + 1 : Nat) : Int)).toNat < l.length - ((i : Nat) : Int).toNat
          omega
    · obtain rfl : i = l.length := by omega
      have d1 : decide ((l.length : Int) < l.length) = false := by simp
      have hq : NoZ (l.drop f) := by
        have := HZ.out
        rwa [List.take_of_length_le (by rw [List.length_drop]; omega)] at this
      have hfin : R = L' ++ partE (l.drop f) := by rw [HR'.out, encL_noz hq]
      have Hfin := Lib.hid hfin
      have hdl : l.length - f = (l.drop f).length := by rw [List.length_drop]
      clear hq hfin HZ HR'
      go_wp2_with (refine cutBE _ rfl (.tmp 26) (.tmp 27) rfl A l.length c rfl hA f rfl Hfi.out hc ?_; intro X hX hFX; have HX := Lib.hid hX; clear hX hFX; simp [Act.put])
      rename_i K aK
      unfold Oper.wp
      simp [execOp, go_sem]
      have hXb := HX.out w l hl hc
      rw [hdl]
      refine (part_any w.heap.size X _ (l.drop f) _ L' w wr hXb (Nat.le_refl _) t' t'.size (by have := Hfi.out; omega) hown' (by have := HLl.out; have := Hn.out; omega)).mono ?_
      rintro e w2 ⟨A2, c2, rfl, o2, t2, z2⟩
      rw [← Hfin.out] at o2 ⊢
      simp only
      apply aK
      have HRl' := HRl
      clear HX hXb hdl Hfin hown' t'
      go_wp2_with (at_builtin; refine appB _ rfl (.tmp 30) (.tmp 31) rfl w.heap.size _ R rfl (o2.alloc _) w2.heap.size 0 rfl (box_cell _ _ _ _ _ rfl) (by have := HRl.out; omega) (by simp; omega) ?_; intro g1 k1 w3 o3 b3)
      go_ret
      exact ⟨_, _, _, rfl, by simp, o3, t2.trans ((below_alloc _ _).mono z2 |>.trans b3)⟩

end Go.Proofs.YtiogckgchlnldaaGreat

/- The program's Open. -/
namespace Go.Proofs.YtiogckgchlnldaaGreat
open Go.RowKit

def Dec (c o : List UInt8) : Prop := ∃ f, decP f c = some o
theorem Dec.only {c o : List UInt8} (h : Dec c o) (hz : NoZ c) : encL o = c := h.elim fun f h => dec_only f c o hz h
theorem Dec.back (o : List UInt8) : Dec (encL o) o := ⟨_, dec_back _ o (Nat.le_refl _) _ (Nat.le_refl _)⟩
theorem not_dec_nil (o : List UInt8) : ¬ Dec [] o := fun ⟨f, h⟩ => by cases f <;> simp [decP] at h
theorem dec_step (n : UInt8) (t o : List UInt8) : Dec (n :: t) o ↔ n.toNat ≤ t.length + 1 ∧
    ((n.toNat ≤ 254 ∧ t.length + 1 = n.toNat ∧ o = t.take (n.toNat - 1)) ∨
     (n.toNat ≤ 254 ∧ t.length + 1 ≠ n.toNat ∧ ∃ o', Dec (t.drop (n.toNat - 1)) o' ∧ o = t.take (n.toNat - 1) ++ 0 :: o') ∨
     (254 < n.toNat ∧ t.length + 1 ≠ n.toNat ∧ ∃ o', Dec (t.drop (n.toNat - 1)) o' ∧ o = t.take (n.toNat - 1) ++ o')) := by
  constructor
  · rintro ⟨f, h⟩
    cases f with
    | zero => simp [decP] at h
    | succ f =>
      unfold decP at h
      by_cases h1 : t.length + 1 < n.toNat
      · rw [if_pos h1] at h; cases h
      · rw [if_neg h1] at h
        refine ⟨by omega, ?_⟩
        by_cases h2 : n.toNat ≤ 254
        · rw [if_pos h2] at h
          by_cases h3 : t.length + 1 = n.toNat
          · rw [if_pos h3] at h; injection h with h; exact .inl ⟨h2, h3, h.symm⟩
          · rw [if_neg h3] at h
            obtain ⟨o', h4, h5⟩ := Option.map_eq_some_iff.1 h
            exact .inr (.inl ⟨h2, h3, o', ⟨f, h4⟩, h5.symm⟩)
        · rw [if_neg h2] at h
          by_cases h3 : t.length + 1 = n.toNat
          · rw [if_pos h3] at h; cases h
          · rw [if_neg h3] at h
            obtain ⟨o', h4, h5⟩ := Option.map_eq_some_iff.1 h
            exact .inr (.inr ⟨by omega, h3, o', ⟨f, h4⟩, h5.symm⟩)
  · rintro ⟨h1, ⟨h2, h3, rfl⟩ | ⟨h2, h3, o', ⟨f, h4⟩, rfl⟩ | ⟨h2, h3, o', ⟨f, h4⟩, rfl⟩⟩
    · exact ⟨1, by unfold decP; rw [if_neg (by omega), if_pos h2, if_pos h3]⟩
    · exact ⟨f + 1, by unfold decP; rw [if_neg (by omega), if_pos h2, if_neg h3, h4]; rfl⟩
    · exact ⟨f + 1, by unfold decP; rw [if_neg (by omega), if_neg (by omega), if_neg h3, h4]; rfl⟩

theorem dec_go {n : UInt8} {t a O : List UInt8} (HD : ∀ o, Dec a o ↔ ∃ o', Dec (n :: t) o' ∧ o = O ++ o') (h1 : n.toNat ≤ t.length) (h2 : n.toNat ≤ 254) :
    ∀ o, Dec a o ↔ ∃ o', Dec (t.drop (n.toNat - 1)) o' ∧ o = (O ++ t.take (n.toNat - 1) ++ [0]) ++ o' := fun o => by
  rw [HD o]
  constructor
  · rintro ⟨o', h, rfl⟩
    rcases ((dec_step n t o').1 h).2 with ⟨_, h3, _⟩ | ⟨_, _, x, h4, rfl⟩ | ⟨h3, _⟩
    · omega
    · exact ⟨x, h4, by simp⟩
    · omega
  · rintro ⟨x, h4, rfl⟩
    exact ⟨_, (dec_step n t _).2 ⟨by omega, .inr (.inl ⟨h2, by omega, x, h4, rfl⟩)⟩, by simp⟩
theorem dec_full {n : UInt8} {t a O : List UInt8} (HD : ∀ o, Dec a o ↔ ∃ o', Dec (n :: t) o' ∧ o = O ++ o') (h1 : n.toNat ≤ t.length) (h2 : 254 < n.toNat) :
    ∀ o, Dec a o ↔ ∃ o', Dec (t.drop (n.toNat - 1)) o' ∧ o = (O ++ t.take (n.toNat - 1)) ++ o' := fun o => by
  rw [HD o]
  constructor
  · rintro ⟨o', h, rfl⟩
    rcases ((dec_step n t o').1 h).2 with ⟨h3, _⟩ | ⟨h3, _⟩ | ⟨_, _, x, h4, rfl⟩
    · omega
    · omega
    · exact ⟨x, h4, by simp⟩
  · rintro ⟨x, h4, rfl⟩
    exact ⟨_, (dec_step n t _).2 ⟨by omega, .inr (.inr ⟨h2, by omega, x, h4, rfl⟩)⟩, by simp⟩
theorem dec_end {n : UInt8} {t a O : List UInt8} (HD : ∀ o, Dec a o ↔ ∃ o', Dec (n :: t) o' ∧ o = O ++ o') (h1 : t.length + 1 = n.toNat) (h2 : n.toNat ≤ 254) : Dec a (O ++ t.take (n.toNat - 1)) :=
  (HD _).2 ⟨_, (dec_step n t _).2 ⟨by omega, .inl ⟨h2, h1, rfl⟩⟩, rfl⟩
theorem dec_bad {n : UInt8} {t a O : List UInt8} (HD : ∀ o, Dec a o ↔ ∃ o', Dec (n :: t) o' ∧ o = O ++ o') (h1 : t.length + 1 = n.toNat) (h2 : 254 < n.toNat) : ∀ o, ¬ Dec a o := fun o h => by
  obtain ⟨o', h', _⟩ := (HD o).1 h
  rcases ((dec_step n t o').1 h').2 with ⟨h3, _⟩ | ⟨h3, _⟩ | ⟨_, h3, _⟩ <;> omega

/-- Open's answer: the wrapped bytes that l begins with, if there are any -/
def OpenP (l : List UInt8) (base : Nat) (e : Ending) (w : World) : Prop :=
  ((∀ o r, l ≠ encL o ++ 0 :: r) ∧ e = .returned (.tuple #[.slice none 0 0, .int .i64 0, .int .u16 90])) ∨
  (∃ o r A n c, l = encL o ++ 0 :: r ∧ e = .returned (.tuple #[.slice A n c, .int .i64 (((encL o).length + 1 : Nat) : Int), .int .u16 0]) ∧ n = o.length ∧ OwnB w base (.slice A n c) o)
theorem OpenP.bad {l : List UInt8} {base : Nat} {w : World} (h : ∀ o r, l ≠ encL o ++ 0 :: r) : OpenP l base (.returned (.tuple #[.slice none 0 0, .int .i64 0, .int .u16 90])) w := .inl ⟨h, rfl⟩
theorem bad_miss {l : List UInt8} (h : NoZ l) : ∀ o r, l ≠ encL o ++ 0 :: r := fun o r e => h 0 (by rw [e]; simp) rfl
theorem bad_hit {l a r : List UInt8} (hl : l = a ++ 0 :: r) (hz : NoZ a) (h : ∀ o, ¬ Dec a o) : ∀ o r, l ≠ encL o ++ 0 :: r := fun o s e => by
  have := (first_zero (encL_noZ o) hz (e.symm.trans hl)).1
  exact h o (this ▸ Dec.back o)

set_option maxRecDepth 100000 in
set_option maxHeartbeats 2000000 in
theorem open_any (A : Option Addr) (c : Nat) (l : List UInt8) (w : World) (hl : Bs w A l) (hc : l.length ≤ c) (hn : l.length ≤ 200000) :
    Calls Tryz.prog 76 #[.slice A l.length c] w fun e w' => OpenP l w.heap.size e w' ∧ Below w.heap.size w w' := by
  have hbA := below_alloc w (.cells #[.int .u8 0] 5)
  have hbs0 : (w.alloc (.cells #[.int .u8 0] 5)).cell? ⟨w.heap.size, 0, none⟩ = some (.int .u8 0) := box_cell _ _ _ _ _ rfl
  rcases zero_cases l with hz | ⟨a, r, hz, hra⟩
  · have HB := Lib.hid (bad_miss hz)
    have Hcut := Lib.hid (cut_miss c w.heap.size 1 _ (hl.below hbA) hbs0 hz)
    clear hz hc hn
    go_enter Tryz.func76, Tryz.ntmps76
    go_wp2_with (go_at_call 78; refine Hcut.out.mono ?_; rintro e w1 ⟨rfl, rfl⟩)
    go_ret3
    exact ⟨.bad HB.out, hbA⟩
  · have hlen : l.length = a.length + 1 + r.length := by rw [hra]; simp; omega
    have Hcut := Lib.hid (cut_hit a r c w.heap.size 1 _ (hl.below hbA) hbs0 hra hz hc (by omega))
    rcases Nat.eq_zero_or_pos a.length with ha0 | hapos
    · have hae : a = [] := List.eq_nil_of_length_eq_zero ha0
      subst hae
      have HB := Lib.hid (bad_hit hra hz fun o => not_dec_nil o)
      clear hz hc hn hra hlen ha0
      go_enter Tryz.func76, Tryz.ntmps76
      go_wp2_with (go_at_call 78; refine Hcut.out.mono ?_; rintro e w1 ⟨A2, n2, rfl, _, rfl⟩)
      go_ret3
      exact ⟨.bad HB.out, ⟨hbA.os, hbA.tape, hbA.output, hbA.size, hbA.block⟩⟩
    · have d1 : decide ((a.length : Int) = 0) = false := decide_eq_false (by omega)
      have d2 : decide (a.length = 0) = false := decide_eq_false (by omega)
      have d3 : a.length ≠ 0 := by omega
      have d4 : ((a.length : Int) == 0) = false := beq_eq_false_iff_ne.2 (by omega)
      have e1 : IntKind.i64.wrap ((a.length : Int) + 1) = ((a.length + 1 : Nat) : Int) := by rw [IntKind.wrap_i64]; omega
      have hla : Bs w A a := by
        have := hl.take a.length
        rwa [hra, List.take_left] at this
      have hal : a.length ≤ 200000 := by omega
      have hac : a.length ≤ c := by omega
      have Hra := Lib.hid hra
      have Hz := Lib.hid hz
      have Hap := Lib.hid hapos
      have Hal := Lib.hid hal
      have Hac := Lib.hid hac
      clear hz hc hn hra hlen hapos hal hac
      obtain ⟨us, hus⟩ : ∃ us : Nat, us = a.length + 1 := ⟨_, rfl⟩
      rw [← hus] at e1
      have Hus := Lib.hid hus
      clear hus
      go_enter Tryz.func76, Tryz.ntmps76
      go_wp2_with (go_at_call 78; refine Hcut.out.mono ?_; rintro e w1 ⟨A2, n2, rfl, _, rfl⟩)
      have tB : Below w.heap.size w ((w.alloc (.cells #[.int .u8 0] 5)).drewN n2) := ⟨hbA.os, hbA.tape, hbA.output, hbA.size, hbA.block⟩
      generalize (w.alloc (.cells #[.int .u8 0] 5)).drewN n2 = W at *
      go_loopw [5, 9] (fun s0 s1 wr => ∃ (A' : Option Addr) (c' : Nat) (q : List UInt8) (V1 : Option Addr) (V2 : Nat) (O : List UInt8), s0 = .slice A' q.length c' ∧ s1 = .slice V1 O.length V2 ∧ q.length ≤ c' ∧ q.length ≤ 200000 ∧ Bs w A' q ∧ 0 < q.length ∧ Hid (NoZ q) ∧ OwnB wr w.heap.size (.slice V1 O.length V2) O ∧ O.length + q.length ≤ a.length ∧ Below w.heap.size w wr ∧ Hid (∀ o, Dec a o ↔ ∃ o', Dec q o' ∧ o = O ++ o'))
        (fun s0 _ _ => match s0 with | .slice _ n _ => n | _ => 0)
      case atStart => exact ⟨A, c, a, none, 0, [], rfl, rfl, Hac.out, Hal.out, hla, Hap.out, Hz, OwnB.nil _ _, by simp, tB, Lib.hid fun o => ⟨fun h => ⟨o, h, rfl⟩, fun ⟨o', h, e⟩ => by rw [e]; exact h⟩⟩
      case round =>
        obtain ⟨A', c', q, V1, V2, O, rfl, rfl, hqc, hqn, hqb, hqp, HQ, hown, hOq, tW, HD⟩ := hrel
        obtain ⟨n, t, rfl⟩ : ∃ n t, q = n :: t := by
          cases q with
          | nil => cases hqp
          | cons n t => exact ⟨n, t, rfl⟩
        obtain ⟨p, o, rfl, hcell⟩ := (hqb.belowB tW (Nat.le_refl _)) 0 n rfl
        unfold bv at hcell
        have hn0 : n ≠ 0 := HQ.out n List.mem_cons_self
        have hn1 : 1 ≤ n.toNat := by
          rcases Nat.eq_zero_or_pos n.toNat with h | h
          · exact absurd (UInt8.toNat_inj.1 h) hn0
          · exact h
        have hn2 : n.toNat < 256 := n.toNat_lt
        obtain ⟨m, hm⟩ : ∃ m, m = n.toNat := ⟨_, rfl⟩
        rw [← hm] at hcell hn1 hn2
        have hql : (n :: t).length = t.length + 1 := rfl
        rw [Nat.add_zero] at hcell
        have f1 : IntKind.i64.wrap (m : Int) = (m : Int) := by rw [IntKind.wrap_i64]; omega
        obtain ⟨k, hk⟩ : ∃ k, k = (n :: t).length := ⟨_, rfl⟩
        have hk0 : 0 < k := by omega
        have Hm := Lib.hid hm
        have Hk := Lib.hid hk
        have HqC := Lib.hid hqc
        have HOq := Lib.hid hOq
        have Hn1 := Lib.hid hn1
        rw [← hk]
        rcases Nat.lt_or_ge k m with hgt | hle
        · have g1 : decide ((k : Int) < (m : Int)) = true := by simp; omega
          have g2 : decide (k < m) = true := by simp; omega
          clear hm hk hqc hOq hn1 hn2 hn0 hql hqp
          go_wp2_with fail
          go_ret3
          refine ⟨.bad (bad_hit Hra.out Hz.out fun o h => ?_), tW⟩
          obtain ⟨o', h', _⟩ := (HD.out o).1 h
          have := ((dec_step n t o').1 h').1
          have := Hm.out
          have := Hk.out
          simp at this
          omega
        · have g1 : decide ((k : Int) < (m : Int)) = false := decide_eq_false (by omega)
          have g2 : decide (k < m) = false := decide_eq_false (by omega)
          have Hle := Lib.hid hle
          have hq1 : (t.take (m - 1)).length = m - 1 := by rw [List.length_take]; omega
          have hq2 : (t.drop (m - 1)).length = k - m := by rw [List.length_drop]; omega
          clear hm hk hqc hOq hn1 hn0 hql hqp hle
          have hkc : k ≤ c' := by have := HqC.out; rw [← Hk.out] at this; exact this
          have hmc : m ≤ c' := Nat.le_trans Hle.out hkc
          have Hkc := Lib.hid hkc
          have Hmc := Lib.hid hmc
          clear hkc hmc
          obtain ⟨j, hj⟩ : ∃ j, j = k - m := ⟨_, rfl⟩
          rw [← hj] at hq2
          obtain ⟨L3, HL3⟩ : ∃ L3, Hid (O.length + (t.take (m - 1)).length = L3) := ⟨_, Lib.hid rfl⟩
          obtain ⟨L4, HL4⟩ : ∃ L4, Hid ((O ++ t.take (m - 1)).length + 1 = L4) := ⟨_, Lib.hid rfl⟩
          have Hdm : Hid ((n :: t).drop m = t.drop (m - 1)) := Lib.hid (by
            have := Hn1.out
            obtain ⟨m', rfl⟩ : ∃ m', m = m' + 1 := ⟨m - 1, by omega⟩
            rfl)
          have hz3 : NoZ (t.drop (m - 1)) := fun x hx => HQ.out x (List.mem_cons_of_mem _ (List.mem_of_mem_drop hx))
          have HZ3 := Lib.hid hz3
          clear hz3
          rcases Nat.eq_zero_or_pos j with hj0 | hj0
          · subst hj0
            rcases Nat.lt_or_ge 254 m with hm1 | hm1
            · have m1 : decide ((m : Int) ≤ 254) = false := decide_eq_false (by omega)
              have m2 : decide (m ≤ 254) = false := decide_eq_false (by omega)
              have HB := Lib.hid (bad_hit Hra.out Hz.out (dec_bad HD.out (by have := Hk.out; have := Hm.out; have := Hle.out; simp at *; omega) (by rw [← Hm.out]; omega)))
              have Hj := Lib.hid hj
              clear hj
              go_wp2_with (first
            | (refine cutB _ rfl (.tmp 37) (.const (.int .i64 1)) (.tmp 38) rfl (some ⟨p, o, none⟩) k c' rfl (.inr ⟨_, _, rfl⟩) 1 m rfl rfl Hn1.out Hmc.out ?_; intro X1 hX1 _; have HX1 := Lib.hid hX1; clear hX1; simp [Act.put])
            | (at_builtin; refine appAll _ rfl (.tmp 36) (.tmp 39) rfl w.heap.size _ O rfl hown X1 (c' - 1) (t.take (m - 1)) (congrArg (fun k => Value.slice X1 k (c' - 1)) hq1.symm) (((HX1.out w (n :: t) hqb HqC.out).take (m - 1)).belowB tW (Nat.le_refl _)) (by have := HOq.out; have := Hal.out; have := Hle.out; have := Hk.out; rw [hq1]; omega) tW.size ?_; intro A3 c3 w3 o3 b3; rw [HL3.out] at o3 ⊢)
            | (refine cutBE _ rfl (.tmp 41) (.tmp 42) rfl (some ⟨p, o, none⟩) k c' rfl (.inr ⟨_, _, rfl⟩) m rfl Hle.out Hkc.out ?_; intro X2 hX2 _; have HX2 := Lib.hid hX2; clear hX2; rw [← Hj.out]; simp [Act.put])
            | (at_builtin; refine appB _ rfl (.tmp 52) (.tmp 53) rfl w.heap.size _ (O ++ t.take (m - 1)) rfl (o3.alloc _) w3.heap.size 0 rfl (box_cell _ _ _ _ _ rfl) (by have := HOq.out; have := Hal.out; have := Hle.out; have := Hk.out; rw [List.length_append, hq1]; omega) (by have := tW.size; have := b3.size; simp; omega) ?_; intro g4 c4 w4 o4 b4; rw [HL4.out] at o4 ⊢))
              go_ret3
              exact ⟨.bad HB.out, tW.trans b3⟩
            · have m1 : decide ((m : Int) ≤ 254) = true := decide_eq_true (by omega)
              have m2 : decide (m ≤ 254) = true := decide_eq_true (by omega)
              have HE := Lib.hid (dec_end HD.out (by have := Hk.out; have := Hm.out; have := Hle.out; simp at *; omega) (by rw [← Hm.out]; omega))
              have Hj := Lib.hid hj
              clear hj
              go_wp2_with (first
            | (refine cutB _ rfl (.tmp 37) (.const (.int .i64 1)) (.tmp 38) rfl (some ⟨p, o, none⟩) k c' rfl (.inr ⟨_, _, rfl⟩) 1 m rfl rfl Hn1.out Hmc.out ?_; intro X1 hX1 _; have HX1 := Lib.hid hX1; clear hX1; simp [Act.put])
            | (at_builtin; refine appAll _ rfl (.tmp 36) (.tmp 39) rfl w.heap.size _ O rfl hown X1 (c' - 1) (t.take (m - 1)) (congrArg (fun k => Value.slice X1 k (c' - 1)) hq1.symm) (((HX1.out w (n :: t) hqb HqC.out).take (m - 1)).belowB tW (Nat.le_refl _)) (by have := HOq.out; have := Hal.out; have := Hle.out; have := Hk.out; rw [hq1]; omega) tW.size ?_; intro A3 c3 w3 o3 b3; rw [HL3.out] at o3 ⊢)
            | (refine cutBE _ rfl (.tmp 41) (.tmp 42) rfl (some ⟨p, o, none⟩) k c' rfl (.inr ⟨_, _, rfl⟩) m rfl Hle.out Hkc.out ?_; intro X2 hX2 _; have HX2 := Lib.hid hX2; clear hX2; rw [← Hj.out]; simp [Act.put])
            | (at_builtin; refine appB _ rfl (.tmp 52) (.tmp 53) rfl w.heap.size _ (O ++ t.take (m - 1)) rfl (o3.alloc _) w3.heap.size 0 rfl (box_cell _ _ _ _ _ rfl) (by have := HOq.out; have := Hal.out; have := Hle.out; have := Hk.out; rw [List.length_append, hq1]; omega) (by have := tW.size; have := b3.size; simp; omega) ?_; intro g4 c4 w4 o4 b4; rw [HL4.out] at o4 ⊢))
              go_ret3
              refine ⟨.inr ⟨O ++ t.take (m - 1), r, A3, L3, c3, ?_, ?_, ?_, o3⟩, tW.trans b3⟩
              · have := HE.out; rw [← Hm.out] at this; rw [this.only Hz.out]; exact Hra.out
              · have := HE.out; rw [← Hm.out] at this; rw [this.only Hz.out, ← Hus.out]; rfl
              · rw [List.length_append]; exact HL3.out.symm
          · have j1 : decide ((0 : Int) < (j : Int)) = true := decide_eq_true (by omega)
            have j2 : decide (0 < j) = true := decide_eq_true (by omega)
            have j3 : decide ((j : Int) = 0) = false := decide_eq_false (by omega)
            have j4 : decide (j = 0) = false := decide_eq_false (by omega)
            have j5 : j ≠ 0 := by omega
            have j6 : ((j : Int) == 0) = false := beq_eq_false_iff_ne.2 (by omega)
            have hjt : m ≤ t.length := by have := Hk.out; have := Hle.out; simp at *; omega
            have Hjt := Lib.hid hjt
            have Hj := Lib.hid hj
            clear hj hjt
            rcases Nat.lt_or_ge 254 m with hm1 | hm1
            · have m1 : decide ((m : Int) ≤ 254) = false := decide_eq_false (by omega)
              have m2 : decide (m ≤ 254) = false := decide_eq_false (by omega)
              have HD2 := Lib.hid (dec_full HD.out (by rw [← Hm.out]; exact Hjt.out) (by rw [← Hm.out]; omega))
              go_wp2_with (first
            | (refine cutB _ rfl (.tmp 37) (.const (.int .i64 1)) (.tmp 38) rfl (some ⟨p, o, none⟩) k c' rfl (.inr ⟨_, _, rfl⟩) 1 m rfl rfl Hn1.out Hmc.out ?_; intro X1 hX1 _; have HX1 := Lib.hid hX1; clear hX1; simp [Act.put])
            | (at_builtin; refine appAll _ rfl (.tmp 36) (.tmp 39) rfl w.heap.size _ O rfl hown X1 (c' - 1) (t.take (m - 1)) (congrArg (fun k => Value.slice X1 k (c' - 1)) hq1.symm) (((HX1.out w (n :: t) hqb HqC.out).take (m - 1)).belowB tW (Nat.le_refl _)) (by have := HOq.out; have := Hal.out; have := Hle.out; have := Hk.out; rw [hq1]; omega) tW.size ?_; intro A3 c3 w3 o3 b3; rw [HL3.out] at o3 ⊢)
            | (refine cutBE _ rfl (.tmp 41) (.tmp 42) rfl (some ⟨p, o, none⟩) k c' rfl (.inr ⟨_, _, rfl⟩) m rfl Hle.out Hkc.out ?_; intro X2 hX2 _; have HX2 := Lib.hid hX2; clear hX2; rw [← Hj.out]; simp [Act.put])
            | (at_builtin; refine appB _ rfl (.tmp 52) (.tmp 53) rfl w.heap.size _ (O ++ t.take (m - 1)) rfl (o3.alloc _) w3.heap.size 0 rfl (box_cell _ _ _ _ _ rfl) (by have := HOq.out; have := Hal.out; have := Hle.out; have := Hk.out; rw [List.length_append, hq1]; omega) (by have := tW.size; have := b3.size; simp; omega) ?_; intro g4 c4 w4 o4 b4; rw [HL4.out] at o4 ⊢))
              go_roundw
              case rel =>
                have x1 := Hk.out
                have x2 := HOq.out
                have x3 := Hle.out
                have x4 := Hj.out
                have x5 := Hkc.out
                have x6 := Hn1.out
                refine ⟨X2, c' - m, t.drop (m - 1), A3, c3, O ++ t.take (m - 1), by rw [hq2], by rw [List.length_append, HL3.out], by rw [hq2]; omega, by rw [hq2]; omega, ?_, by rw [hq2]; omega, HZ3, ?_, ?_, tW.trans b3, ?_⟩
                · have := HX2.out w (n :: t) hqb HqC.out; rwa [Hdm.out] at this
                · rw [List.length_append, HL3.out]; exact o3
                · rw [List.length_append, hq1, hq2]; omega
                · have := HD2.out; rw [← Hm.out] at this; exact Lib.hid this
              case measure =>
                show j < k
                have := Hj.out; have := Hn1.out; have := Hle.out; omega
            · have m1 : decide ((m : Int) ≤ 254) = true := decide_eq_true (by omega)
              have m2 : decide (m ≤ 254) = true := decide_eq_true (by omega)
              have HD2 := Lib.hid (dec_go HD.out (by rw [← Hm.out]; exact Hjt.out) (by rw [← Hm.out]; omega))
              go_wp2_with (first
            | (refine cutB _ rfl (.tmp 37) (.const (.int .i64 1)) (.tmp 38) rfl (some ⟨p, o, none⟩) k c' rfl (.inr ⟨_, _, rfl⟩) 1 m rfl rfl Hn1.out Hmc.out ?_; intro X1 hX1 _; have HX1 := Lib.hid hX1; clear hX1; simp [Act.put])
            | (at_builtin; refine appAll _ rfl (.tmp 36) (.tmp 39) rfl w.heap.size _ O rfl hown X1 (c' - 1) (t.take (m - 1)) (congrArg (fun k => Value.slice X1 k (c' - 1)) hq1.symm) (((HX1.out w (n :: t) hqb HqC.out).take (m - 1)).belowB tW (Nat.le_refl _)) (by have := HOq.out; have := Hal.out; have := Hle.out; have := Hk.out; rw [hq1]; omega) tW.size ?_; intro A3 c3 w3 o3 b3; rw [HL3.out] at o3 ⊢)
            | (refine cutBE _ rfl (.tmp 41) (.tmp 42) rfl (some ⟨p, o, none⟩) k c' rfl (.inr ⟨_, _, rfl⟩) m rfl Hle.out Hkc.out ?_; intro X2 hX2 _; have HX2 := Lib.hid hX2; clear hX2; rw [← Hj.out]; simp [Act.put])
            | (at_builtin; refine appB _ rfl (.tmp 52) (.tmp 53) rfl w.heap.size _ (O ++ t.take (m - 1)) rfl (o3.alloc _) w3.heap.size 0 rfl (box_cell _ _ _ _ _ rfl) (by have := HOq.out; have := Hal.out; have := Hle.out; have := Hk.out; rw [List.length_append, hq1]; omega) (by have := tW.size; have := b3.size; simp; omega) ?_; intro g4 c4 w4 o4 b4; rw [HL4.out] at o4 ⊢))
              go_roundw
              case rel =>
                have x1 := Hk.out
                have x2 := HOq.out
                have x3 := Hle.out
                have x4 := Hj.out
                have x5 := Hkc.out
                have x6 := Hn1.out
                refine ⟨X2, c' - m, t.drop (m - 1), some ⟨g4, 0, none⟩, c4, O ++ t.take (m - 1) ++ [0], by rw [hq2], by rw [List.length_append, List.length_singleton, HL4.out], by rw [hq2]; omega, by rw [hq2]; omega, ?_, by rw [hq2]; omega, HZ3, ?_, ?_, (tW.trans b3).trans (((below_alloc w3 _).mono (Nat.le_trans tW.size b3.size)).trans b4), ?_⟩
                · have := HX2.out w (n :: t) hqb HqC.out; rwa [Hdm.out] at this
                · rw [List.length_append, List.length_singleton, HL4.out]; exact o4
                · rw [List.length_append, List.length_append, hq1, hq2, List.length_singleton]; omega
                · have := HD2.out; rw [← Hm.out] at this; exact Lib.hid this
              case measure =>
                show j < k
                have := Hj.out; have := Hn1.out; have := Hle.out; omega

end Go.Proofs.YtiogckgchlnldaaGreat
