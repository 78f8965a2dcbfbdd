/- CrcSums, CrcParts, CrcTurns. -/
import Derived.Test.YtipbkfjmblkolaaCrc4
import Derived.Test.YtipbkfjmblkolaaApp
namespace Go.Proofs.Ytipbkfjmblkolaa
open Go.RowKit

theorem TabF.below {w w' : World} {g : Nat} (h : TabF w g) (t : Below w.heap.size w w') : TabF w' g := Blk.below h t h.lt
theorem TabM.below {w w' : World} {g : Nat} (h : TabM w g) (t : Below w.heap.size w w') : TabM w' g := Blk.below h t h.lt

set_option maxRecDepth 100000 in
set_option maxHeartbeats 1000000 in
theorem crcSums_walk (A B : Option Addr) (c d : Nat) (l m : List UInt8) (w : World) (hl : Bs w A l) (hm : Bs w B m) :
    Calls Try.prog 3 #[.slice A l.length c, .slice B m.length d] w fun e w' => e = .returned (.bool true) ∧ Below w.heap.size w w' := by
  rcases Nat.lt_or_ge 2000 l.length with h0 | h0
  · have d1 : decide ((2000 : Int) < l.length) = true := by simp; omega
    have d2 : decide (2000 < l.length) = true := by simp; omega
    go_enter Try.func3, Try.ntmps3
    go_wp2_with (go_at_call 13; refine (crcKnown_any _).mono ?_; rintro e w1 ⟨rfl, hb1⟩)
    go_ret
    exact ⟨rfl, hb1⟩
  have d1 : decide ((2000 : Int) < l.length) = false := by simp; omega
  have d2 : decide (2000 < l.length) = false := by simp; omega
  rcases Nat.lt_or_ge 2000 m.length with h1 | h1
  · have d3 : decide ((2000 : Int) < m.length) = true := by simp; omega
    have d4 : decide (2000 < m.length) = true := by simp; omega
    go_enter Try.func3, Try.ntmps3
    go_wp2_with (go_at_call 13; refine (crcKnown_any _).mono ?_; rintro e w1 ⟨rfl, hb1⟩)
    go_ret
    exact ⟨rfl, hb1⟩
  have d3 : decide ((2000 : Int) < m.length) = false := by simp; omega
  have d4 : decide (2000 < m.length) = false := by simp; omega
  go_enter Try.func3, Try.ntmps3
  go_wp2_with fail
  refine (crcKnown_any _).mono ?_
  rintro e w1 ⟨rfl, hb1⟩
  go_wp2_with fail
  refine (crcNew_any _).mono ?_
  rintro e w2 ⟨rfl, hF, hb2⟩
  have hg : w.heap.size ≤ w1.heap.size := hb1.size
  have hg2 := hF.lt
  have t2 := on hb1 hb2
  have a2 := hl.past t2 hg
  have b2 := hm.past t2 hg
  go_wp2_with (at_builtin; go_must (refine appAll _ rfl (.tmp 22) (.tmp 23) rfl w2.heap.size _ [] rfl (OwnB.nil _ _) A c l rfl a2.bs (by simp; omega) (Nat.le_refl _) ?_); intro A3 c3 w3 hown3 hb3; rw [List.nil_append, List.length_nil, Nat.zero_add] at hown3; rw [List.length_nil, Nat.zero_add])
  have hg3 : w1.heap.size < w3.heap.size := by have := hb3.size; omega
  have a3 := a2.below hb3
  have b3 := b2.below hb3
  have o3 := hown3.far' hg2
  have F3 := hF.below hb3
  have t3 := on t2 hb3
  have e3 := below_alloc w3 (.cells #[.slice A3 l.length c3] 22)
  refine (crcSum_any w1.heap.size _ _ [l] _ (.inl (F3.below e3)) (ls_one c3 22 o3 hg3) (by simp) (by simp; omega)).mono ?_
  rintro e w4 ⟨x, HX, rfl, M4, T4⟩
  have a4 := (a3.below e3).tch T4
  have b4 := (b3.below e3).tch T4
  have o4 := (o3.below e3).tch T4
  have t4 : Below w.heap.size w w4 := T4.below (onA t3) (by have := t3.size; simp; omega) hg
  have HX' : Hid (x = crcL l) := Lib.hid (by rw [HX.out]; simp)
  clear HX a3 b3 o3 F3 t3 e3 hown3 hb3 T4 a2 b2 t2 hb1 hb2 hF
  go_wp2_with fail
  refine (refSum_any A c l _ a4.bs (by omega)).mono ?_
  rintro e w5 ⟨x2, HX2, rfl, rfl⟩
  obtain rfl : x2 = x := HX2.out.trans HX'.out.symm
  have e4 := below_alloc w4 (.cells #[.slice B m.length d] 22)
  have hg4 := M4.lt
  go_wp2_with fail
  refine (crcSum_any w1.heap.size _ _ [m] _ (.inr (M4.below e4)) (ls_one d 22 b4 hg4) (by simp) (by simp; omega)).mono ?_
  rintro e w6 ⟨y, HY, rfl, M6, T6⟩
  have a6 := (a4.below e4).tch T6
  have b6 := (b4.below e4).tch T6
  have o6 := (o4.below e4).tch T6
  have t6 : Below w.heap.size w w6 := T6.below (onA t4) (by have := t4.size; simp; omega) hg
  have HY' : Hid (y = crcL m) := Lib.hid (by rw [HY.out]; simp)
  clear HY a4 b4 o4 t4 e4 T6 HX2 HX'
  go_wp2_with fail
  refine (refSum_any B d m _ b6.bs (by omega)).mono ?_
  rintro e w7 ⟨y2, HY2, rfl, rfl⟩
  obtain rfl : y2 = y := HY2.out.trans HY'.out.symm
  clear HY2 HY'
  go_wp2_with fail
  refine (made_any _ 1 _ M6.made (.inr rfl)).mono ?_
  rintro e w8 ⟨rfl, rfl⟩
  have s1 := str_of o6.bs c3
  have s2 := str_of a6.bs c
  go_wp2_with fail
  go_ret
  exact ⟨rfl, t6⟩

end Go.Proofs.Ytipbkfjmblkolaa
