/- known of layer 9; StuffWraps. -/
import Derived.Test.YtipbkfjmblkolaaStf5
import Derived.Test.YtipbkfjmblkolaaStf6
namespace Go.Proofs.Ytipbkfjmblkolaa
open Go.RowKit

theorem bs_new (w : World) (l : List UInt8) (t : TypeId) : Bs (w.alloc (.cells (l.map bv).toArray t)) (some ⟨w.heap.size, 0, none⟩) l := fun i b hi => by
  refine ⟨_, _, rfl, ?_⟩
  rw [Nat.zero_add]
  have hb : Blk (w.alloc (.cells (l.map bv).toArray t)) w.heap.size t (l.map bv).toArray := Blk.new w _ _
  have := hb
  unfold Blk at this
  unfold World.cell?
  rw [this]
  simp [hi]

theorem wrap_ex1 : wrapL [17, 34, 0, 51] = [3, 17, 34, 2, 51, 0] := by
  unfold wrapL
  rw [show ([17, 34, 0, 51] : List UInt8) = [17, 34] ++ 0 :: [51] from rfl, encL_app (by simp [NoZ]), encL_noz (by simp [NoZ]), partE_short (by simp), partE_short (by simp)]
  rfl
theorem wrap_ex2 : wrapL [] = [1, 0] := by
  unfold wrapL
  rw [encL_noz (by simp [NoZ]), partE_short (by simp)]
  rfl
theorem open_ex {base : Nat} {e : Ending} {w : World} (h : OpenP [3, 17, 0] base e w) : e = .returned (.tuple #[.slice none 0 0, .int .i64 0, .int .u16 90]) := by
  rcases h with ⟨_, h⟩ | ⟨o, r, A, n, c, hl, _⟩
  · exact h
  · have := (first_zero (a := [3, 17]) (r := []) (by simp [NoZ]) (encL_noZ o) hl).1
    have hd := Dec.back o
    rw [← this] at hd
    have := ((dec_step 3 [17] o).1 hd).1
    exact absurd this (by decide)

set_option maxRecDepth 100000 in
set_option maxHeartbeats 1000000 in
theorem stuffKnown_any (w : World) : Calls Try.prog 18 #[] w fun e w' => e = .returned (.bool true) ∧ Below w.heap.size w w' := by
  have hb1 : Bs (w.alloc (.cells #[.int .u8 17, .int .u8 34, .int .u8 0, .int .u8 51] 5)) (some ⟨w.heap.size, 0, none⟩) [17, 34, 0, 51] := bs_new w [17, 34, 0, 51] _
  go_enter Try.func18, Try.ntmps18
  go_wp2_with fail
  refine (wrap_any (some ⟨w.heap.size, 0, none⟩) 4 [17, 34, 0, 51] _ hb1 (Nat.le_refl _) (by simp)).mono ?_
  rintro e w1 ⟨A1, n1, c1, rfl, hn1, o1, b1⟩
  rw [wrap_ex1] at o1 hn1
  have t1 : Below w.heap.size w w1 := go1 b1
  go_wp2_with fail
  refine (wrap_any none 0 [] _ (Bs.nil _ _) (Nat.le_refl _) (by simp)).mono ?_
  rintro e w2 ⟨A2, n2, c2, rfl, hn2, o2, b2⟩
  rw [wrap_ex2] at o2 hn2
  have t2 := on t1 b2
  have o1' := o1.below b2
  have hb3 : Bs (w2.alloc (.cells #[.int .u8 3, .int .u8 17, .int .u8 0] 5)) (some ⟨w2.heap.size, 0, none⟩) [3, 17, 0] := bs_new w2 [3, 17, 0] _
  go_wp2_with fail
  refine (open_any (some ⟨w2.heap.size, 0, none⟩) 3 [3, 17, 0] _ hb3 (Nat.le_refl _) (by simp)).mono ?_
  rintro e w3 ⟨HP, b3⟩
  obtain rfl := open_ex HP
  have t3 := on t2 b3
  have o13 := o1'.go b3
  have o23 := o2.go b3
  subst hn1 hn2
  have q1 : Bs (w3.alloc (.cells #[.int .u8 3, .int .u8 17, .int .u8 34, .int .u8 2, .int .u8 51, .int .u8 0] 5)) (some ⟨w3.heap.size, 0, none⟩) [3, 17, 34, 2, 51, 0] := bs_new w3 [3, 17, 34, 2, 51, 0] _
  have e1 := below_alloc w3 (.cells #[.int .u8 3, .int .u8 17, .int .u8 34, .int .u8 2, .int .u8 51, .int .u8 0] 5)
  have q2 : Bs ((w3.alloc (.cells #[.int .u8 3, .int .u8 17, .int .u8 34, .int .u8 2, .int .u8 51, .int .u8 0] 5)).alloc (.cells #[.int .u8 1, .int .u8 0] 5)) (some ⟨w3.heap.size + 1, 0, none⟩) [1, 0] := by
    have := bs_new (w3.alloc (.cells #[.int .u8 3, .int .u8 17, .int .u8 34, .int .u8 2, .int .u8 51, .int .u8 0] 5)) [1, 0] 5
    rw [World.size_alloc] at this
    exact this
  have s1 : (convert 22 9 (.slice A1 6 c1)).run Try.prog w3 = .ok (.string ⟨#[3, 17, 34, 2, 51, 0]⟩) w3 := str_of o13.bs c1
  have s2 : (convert 22 9 (.slice (some ⟨w3.heap.size, 0, none⟩) 6 6)).run Try.prog (w3.alloc (.cells #[.int .u8 3, .int .u8 17, .int .u8 34, .int .u8 2, .int .u8 51, .int .u8 0] 5)) = .ok (.string ⟨#[3, 17, 34, 2, 51, 0]⟩) _ := str_of q1 6
  have s3 : (convert 22 9 (.slice A2 2 c2)).run Try.prog (w3.alloc (.cells #[.int .u8 3, .int .u8 17, .int .u8 34, .int .u8 2, .int .u8 51, .int .u8 0] 5)) = .ok (.string ⟨#[1, 0]⟩) _ := str_of (o23.bs.below e1) c2
  have s4 : (convert 22 9 (.slice (some ⟨w3.heap.size + 1, 0, none⟩) 2 2)).run Try.prog ((w3.alloc (.cells #[.int .u8 3, .int .u8 17, .int .u8 34, .int .u8 2, .int .u8 51, .int .u8 0] 5)).alloc (.cells #[.int .u8 1, .int .u8 0] 5)) = .ok (.string ⟨#[1, 0]⟩) _ := str_of q2 2
  clear o13 o23 o1' o1 o2 q1 q2 hb1 hb3 HP
  go_wp2_with fail
  go_ret
  exact ⟨rfl, t3.trans ((e1.mono t3.size).trans ((below_alloc _ _).mono (by have := t3.size; simp; omega)))⟩

end Go.Proofs.Ytipbkfjmblkolaa
