/- CrcParts, CrcTurns. -/
import Derived.Test.YtipbkfjmblkolaaCrc5
namespace Go.Proofs.Ytipbkfjmblkolaa
open Go.RowKit

theorem Bsf.tch2 {w w' : World} {g g' : Nat} {A : Option Addr} {l : List UInt8} (h : Bsf w g A l) (k : Bsf w g' A l) (t : Tch g' w w') : Bsf w' g A l := fun i b hi => by
  obtain ⟨p, o, e, hp, hc⟩ := h i b hi
  obtain ⟨p', o', e', hp', _⟩ := k i b hi
  rw [e] at e'
  injection e' with e'
  injection e' with e1 _ _
  refine ⟨p, o, e, hp, ?_⟩
  rw [World.cell?_of_block (t.block p (cell_lt hc) (by intro e2; injection e2 with e2; omega))]
  exact hc
theorem TabF.tch {w w' : World} {g g' : Nat} (h : TabF w g) (t : Tch g' w w') (hne : g ≠ g') : TabF w' g := Blk.tch h t hne
theorem TabM.tch {w w' : World} {g g' : Nat} (h : TabM w g) (t : Tch g' w w') (hne : g ≠ g') : TabM w' g := Blk.tch h t hne

set_option maxRecDepth 100000 in
set_option maxHeartbeats 1000000 in
theorem crcParts_small (A B C : Option Addr) (c d f : Nat) (l m n : List UInt8) (w : World) (hl : Bs w A l) (hm : Bs w B m) (hn : Bs w C n) (h0 : l.length ≤ 2000) (h1 : m.length ≤ 2000) (h2 : n.length ≤ 2000) :
    Calls Try.prog 4 #[.slice A l.length c, .slice B m.length d, .slice C n.length f] w fun e w' => e = .returned (.bool true) ∧ Below w.heap.size w w' := by
  have d1 : decide ((2000 : Int) < l.length) = false := by simp; omega
  have d2 : decide (2000 < l.length) = false := by simp; omega
  have d3 : decide ((2000 : Int) < m.length) = false := by simp; omega
  have d4 : decide (2000 < m.length) = false := by simp; omega
  have d5 : decide ((2000 : Int) < n.length) = false := by simp; omega
  have d6 : decide (2000 < n.length) = false := by simp; omega
  go_enter Try.func4, Try.ntmps4
  go_wp2_with fail
  refine (crcKnown_any _).mono ?_
  rintro e w1 ⟨rfl, hb1⟩
  go_wp2_with fail
  refine (crcNew_any _).mono ?_
  rintro e w2 ⟨rfl, hF, hb2⟩
  have hg : w.heap.size ≤ w1.heap.size := hb1.size
  have hg2 := hF.lt
  have t2 := on hb1 hb2
  go_wp2_with fail
  refine (crcNew_any _).mono ?_
  rintro e w3 ⟨rfl, hG, hb3⟩
  have F3 := hF.below hb3
  have hg3 := hG.lt
  have t3 := on t2 hb3
  have a3 := hl.past t3 hg
  have b3 := hm.past t3 hg
  have a3' := hl.past t3 (Nat.le_trans hg (Nat.le_of_lt hg2))
  have b3' := hm.past t3 (Nat.le_trans hg (Nat.le_of_lt hg2))
  have n3' := hn.past t3 (Nat.le_trans hg (Nat.le_of_lt hg2))
  clear hF hb3 hb2 hb1 t2
  have e3 := below_alloc w3 (.cells #[.slice C n.length f] 22)
  go_wp2_with fail
  refine (crcSum_any w2.heap.size _ _ [n] _ (.inl (hG.below e3)) (ls_one f 22 n3' hg3) (by simp) (by simp; omega)).mono ?_
  rintro e w4 ⟨x, -, rfl, M4, T4⟩
  have F4 := (F3.below e3).tch T4 (by omega)
  have a4 := (a3.below e3).tch2 (a3'.below e3) T4
  have b4 := (b3.below e3).tch2 (b3'.below e3) T4
  have t4 : Below w.heap.size w w4 := T4.below (onA t3) (by have := t3.size; simp; omega) (by omega)
  have hg4 := M4.lt
  clear F3 a3 b3 a3' b3' n3' t3 e3 T4 hG hg3
  go_wp2_with (first
    | (at_builtin; refine appAll _ rfl (.tmp 34) (.tmp 35) rfl w4.heap.size _ [] rfl (OwnB.nil _ _) A c l rfl a4.bs (by simp; omega) (Nat.le_refl _) ?_; intro A5 c5 w5 hown5 hb5; rw [List.nil_append, List.length_nil, Nat.zero_add] at hown5; rw [List.length_nil, Nat.zero_add]; have b5 := b4.below hb5)
    | (at_builtin; go_must (refine appAll _ rfl (.tmp 37) (.tmp 38) rfl w4.heap.size _ l rfl hown5 B d m rfl b5.bs (by omega) hb5.size ?_); intro A6 c6 w6 hown6 hb6))
  obtain ⟨J, hJ⟩ : ∃ J, J = l ++ m := ⟨_, rfl⟩
  have hl6 : l.length + m.length = J.length := by rw [hJ, List.length_append]
  rw [← hJ, hl6] at hown6
  rw [hl6]
  have hJl : J.length ≤ 4000 := by omega
  have HJ := Lib.hid hJ
  have hb56 : Below w4.heap.size w4 w6 := hb5.trans hb6
  have o6 := hown6.far' hg4
  have o6' := hown6.far' (show w1.heap.size < w4.heap.size by omega)
  have a6 := a4.below hb56
  have b6 := b4.below hb56
  have F6 := F4.below hb56
  have M6 := M4.below hb56
  have t6 := on t4 hb56
  have hg6 : w4.heap.size ≤ w6.heap.size := hb56.size
  clear hb5 hb6 hb56 hown5 hown6 b5 a4 b4 F4 M4 t4 hl6 hJ
  have e6 := below_alloc w6 (.cells #[.slice A l.length c, .slice none ([] : List UInt8).length 0, .slice B m.length d] 22)
  refine (crcSum_any w1.heap.size _ _ [l, [], m] _ (.inl (F6.below e6)) (ls_three c 0 d 22 a6 (bsf_nil _ _ _) b6 (by omega)) (by simp) (by simp; omega)).mono ?_
  rintro e w7 ⟨y, HY, rfl, M7, T7⟩
  have G7 := (M6.below e6).tch T7 (by omega)
  have o7 := (o6.below e6).tch2 (o6'.below e6) T7
  have t7 : Below w.heap.size w w7 := T7.below (onA t6) (by have := t6.size; simp; omega) hg
  have hg7 := G7.lt
  have HY' : Hid (y = crcL J) := Lib.hid (by rw [HY.out, HJ.out]; simp)
  clear HY a6 b6 F6 M6 t6 e6 o6 o6' T7
  have e7 := below_alloc w7 (.cells #[.slice A6 J.length c6] 22)
  go_wp2_with fail
  refine (crcSum_any w2.heap.size _ _ [J] _ (.inr (G7.below e7)) (ls_one c6 22 o7 hg7) (by simp) (by simp; omega)).mono ?_
  rintro e w8 ⟨z, HZ, rfl, M8, T8⟩
  obtain rfl : z = y := by rw [HZ.out, HY'.out]; simp
  have N8 := (M7.below e7).tch T8 (by omega)
  have t8 : Below w.heap.size w w8 := T8.below (onA t7) (by have := t7.size; simp; omega) (by omega)
  clear HZ HY' T8 e7 t7 o7
  go_wp2_with fail
  refine (made_any _ 1 _ N8.made (.inr rfl)).mono ?_
  rintro e w9 ⟨rfl, rfl⟩
  go_wp2_with fail
  refine (made_any _ 1 _ M8.made (.inr rfl)).mono ?_
  rintro e w9 ⟨rfl, rfl⟩
  go_wp2_with fail
  go_ret
  exact ⟨rfl, t8⟩

set_option maxRecDepth 100000 in
theorem crcParts_walk (A B C : Option Addr) (c d f : Nat) (l m n : List UInt8) (w : World) (hl : Bs w A l) (hm : Bs w B m) (hn : Bs w C n) :
    Calls Try.prog 4 #[.slice A l.length c, .slice B m.length d, .slice C n.length f] w fun e w' => e = .returned (.bool true) ∧ Below w.heap.size w w' := by
  rcases Nat.lt_or_ge 2000 l.length with h0 | h0
  · have d1 : decide ((2000 : Int) < l.length) = true := by simp; omega
    have d2 : decide (2000 < l.length) = true := by simp; omega
    go_enter Try.func4, Try.ntmps4
    go_wp2_with (go_at_call 13; refine (crcKnown_any _).mono ?_; rintro e w1 ⟨rfl, hb1⟩)
    go_ret
    exact ⟨rfl, hb1⟩
  rcases Nat.lt_or_ge 2000 m.length with h1 | h1
  · have d1 : decide ((2000 : Int) < l.length) = false := by simp; omega
    have d2 : decide (2000 < l.length) = false := by simp; omega
    have d3 : decide ((2000 : Int) < m.length) = true := by simp; omega
    have d4 : decide (2000 < m.length) = true := by simp; omega
    go_enter Try.func4, Try.ntmps4
    go_wp2_with (go_at_call 13; refine (crcKnown_any _).mono ?_; rintro e w1 ⟨rfl, hb1⟩)
    go_ret
    exact ⟨rfl, hb1⟩
  rcases Nat.lt_or_ge 2000 n.length with h2 | h2
  · have d1 : decide ((2000 : Int) < l.length) = false := by simp; omega
    have d2 : decide (2000 < l.length) = false := by simp; omega
    have d3 : decide ((2000 : Int) < m.length) = false := by simp; omega
    have d4 : decide (2000 < m.length) = false := by simp; omega
    have d5 : decide ((2000 : Int) < n.length) = true := by simp; omega
    have d6 : decide (2000 < n.length) = true := by simp; omega
    go_enter Try.func4, Try.ntmps4
    go_wp2_with (go_at_call 13; refine (crcKnown_any _).mono ?_; rintro e w1 ⟨rfl, hb1⟩)
    go_ret
    exact ⟨rfl, hb1⟩
  exact crcParts_small A B C c d f l m n w hl hm hn h0 h1 h2

theorem crcL_last (l : List UInt8) (x y : UInt8) : crcL (l ++ [x]) = crcL (l ++ [y]) ↔ x = y := by
  rw [crcL_inj, crcF_append, crcF_append]
  constructor
  · intro h
    have h1 : csteps 8 (crcF 4294967295 l ^^^ x.toNat) = csteps 8 (crcF 4294967295 l ^^^ y.toNat) := h
    rw [csteps_xor, csteps_xor] at h1
    have h2 : csteps 8 x.toNat = csteps 8 y.toNat := by
      have := congrArg (csteps 8 (crcF 4294967295 l) ^^^ ·) h1
      simpa [← Nat.xor_assoc] using this
    have h3 : csteps 8 (x.toNat ^^^ y.toNat) = 0 := by rw [csteps_xor, h2, Nat.xor_self]
    have hx := x.toNat_lt
    have hy := y.toNat_lt
    have h4 := csteps_zero 8 (show x.toNat ^^^ y.toNat < 4294967296 from Nat.xor_lt_two_pow (n := 32) (by omega) (by omega)) h3
    exact UInt8.toNat_inj.1 (xor_eq_zero.1 h4)
  · rintro rfl; rfl
theorem bsf_byte (w : World) (g : Nat) (T : TypeId) (x : UInt8) (hg : g < w.heap.size) : Bsf (w.alloc (.cells #[.int .u8 x.toNat] T)) g (some ⟨w.heap.size, 0, none⟩) [x] := fun i b hi => by
  match i, hi with
  | 0, hi => simp at hi; subst hi; exact ⟨_, 0, rfl, by omega, box_cell w _ T 0 _ rfl⟩

set_option maxRecDepth 100000 in
set_option maxHeartbeats 1000000 in
theorem crcTurns_walk (A : Option Addr) (c : Nat) (l : List UInt8) (xn yn : Nat) (w : World) (hl : Bs w A l) (hx : xn < 256) (hy : yn < 256) :
    Calls Try.prog 6 #[.slice A l.length c, .int .u8 xn, .int .u8 yn] w fun e w' => e = .returned (.bool true) ∧ Below w.heap.size w w' := by
  obtain ⟨x, rfl⟩ : ∃ x : UInt8, xn = x.toNat := ⟨UInt8.ofNat xn, by rw [UInt8.toNat_ofNat_of_lt' (by omega)]⟩
  obtain ⟨y, rfl⟩ : ∃ y : UInt8, yn = y.toNat := ⟨UInt8.ofNat yn, by rw [UInt8.toNat_ofNat_of_lt' (by omega)]⟩
  clear hx hy
  rcases Nat.lt_or_ge 2000 l.length with h0 | h0
  · have d1 : decide ((2000 : Int) < l.length) = true := by simp; omega
    have d2 : decide (2000 < l.length) = true := by simp; omega
    go_enter Try.func6, Try.ntmps6
    go_wp2_with (go_at_call 13; refine (crcKnown_any _).mono ?_; rintro e w1 ⟨rfl, hb1⟩)
    go_ret
    exact ⟨rfl, hb1⟩
  have d1 : decide ((2000 : Int) < l.length) = false := by simp; omega
  have d2 : decide (2000 < l.length) = false := by simp; omega
  go_enter Try.func6, Try.ntmps6
  go_wp2_with fail
  refine (crcKnown_any _).mono ?_
  rintro e w1 ⟨rfl, hb1⟩
  go_wp2_with fail
  refine (crcNew_any _).mono ?_
  rintro e w2 ⟨rfl, hF, hb2⟩
  have hg : w.heap.size ≤ w1.heap.size := hb1.size
  have hg2 := hF.lt
  have t2 := on hb1 hb2
  have a2 := hl.past t2 hg
  have e2 := below_alloc2 w2 (.cells #[.int .u8 x.toNat] 5) (.cells #[.slice A l.length c, .slice (some ⟨w2.heap.size, 0, none⟩) [x].length 1] 22)
  have L2 := ls_two c 1 22 (a2.below (below_alloc w2 (.cells #[.int .u8 x.toNat] 5))) (bsf_byte w2 w1.heap.size 5 x hg2) (by simp; omega)
  rw [World.size_alloc] at L2
  go_wp2_with fail
  refine (crcSum_any w1.heap.size _ _ [l, [x]] _ (.inl (hF.below e2)) L2 (by simp) (by simp; omega)).mono ?_
  rintro e w3 ⟨X, HX, rfl, M3, T3⟩
  have a3 := (a2.below e2).tch T3
  have t3 : Below w.heap.size w w3 := T3.below (onA t2) (by have := t2.size; simp; omega) hg
  have hg3 := M3.lt
  have e3 := below_alloc2 w3 (.cells #[.int .u8 y.toNat] 5) (.cells #[.slice A l.length c, .slice (some ⟨w3.heap.size, 0, none⟩) [y].length 1] 22)
  have L3 := ls_two c 1 22 (a3.below (below_alloc w3 (.cells #[.int .u8 y.toNat] 5))) (bsf_byte w3 w1.heap.size 5 y hg3) (by simp; omega)
  rw [World.size_alloc] at L3
  clear a2 hF e2 L2 t2 hb1 hb2 T3
  go_wp2_with fail
  refine (crcSum_any w1.heap.size _ _ [l, [y]] _ (.inr (M3.below e3)) L3 (by simp) (by simp; omega)).mono ?_
  rintro e w4 ⟨Y, HY, rfl, M4, T4⟩
  have t4 : Below w.heap.size w w4 := T4.below (onA t3) (by have := t3.size; simp; omega) hg
  have hiff : X = Y ↔ x = y := by
    rw [HX.out, HY.out]
    simpa using crcL_last l x y
  have hn : x = y ↔ x.toNat = y.toNat := UInt8.toNat_inj.symm
  rw [hn] at hiff
  generalize x.toNat = p at *
  generalize y.toNat = q at *
  clear HX HY a3 e3 L3 t3 M3 M4 T4 hn
  by_cases hpq : p = q
  · have c1 : ((p : Int) == (q : Int)) = true := by rw [beq_iff_eq]; omega
    have c2 : ((X : Int) == (Y : Int)) = true := by rw [beq_iff_eq]; omega
    have c1' : (p == q) = true := by rw [beq_iff_eq]; omega
    have c2' : (X == Y) = true := by rw [beq_iff_eq]; omega
    clear hiff hpq
    go_wp2_with fail
    go_ret
    exact ⟨rfl, t4⟩
  · have c1 : ((p : Int) == (q : Int)) = false := by rw [beq_eq_false_iff_ne]; omega
    have c2 : ((X : Int) == (Y : Int)) = false := by rw [beq_eq_false_iff_ne]; omega
    have c1' : (p == q) = false := by rw [beq_eq_false_iff_ne]; omega
    have c2' : (X == Y) = false := by rw [beq_eq_false_iff_ne]; omega
    clear hiff hpq
    go_wp2_with fail
    go_ret
    exact ⟨rfl, t4⟩

end Go.Proofs.Ytipbkfjmblkolaa
