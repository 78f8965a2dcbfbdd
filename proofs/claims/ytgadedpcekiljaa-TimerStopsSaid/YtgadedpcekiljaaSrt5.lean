/- slices.Sort at []uint32: order2Ordered, medianOrdered, medianAdjacentOrdered. -/
import Derived.Test.YtgadedpcekiljaaSrt4
set_option linter.unusedSimpArgs false
set_option linter.unusedVariables false
namespace Go.Proofs.Ytgadedpcekiljaa
open Go.RowKit
set_option maxRecDepth 100000

theorem o2_lt (lt : Nat → Nat → Bool) (d : Array Nat) {a b sw n : Nat} (ha : a < n) (hb : b < n) : (Go.Sort.order2 lt d a b sw).1 < n ∧ (Go.Sort.order2 lt d a b sw).2.1 < n ∧ (Go.Sort.order2 lt d a b sw).2.2 ≤ sw + 1 := by
  unfold Go.Sort.order2
  split
  · exact ⟨hb, ha, Nat.le_refl _⟩
  · exact ⟨ha, hb, Nat.le_succ _⟩
set_option maxHeartbeats 4000000 in
theorem ord2_any (lt : Nat → Nat → Bool) (HL : ∀ (x y : Nat) (w : World), Calls Try.prog 32 #[.int .u32 ((x : Nat) : Int), .int .u32 ((y : Nat) : Int)] w fun e w' => e = .returned (.bool (lt x y)) ∧ w' = w) {B : Nat} {w0 w : World} {ts : List Kt} {g n c s sw : Nat} {d : Array Nat} (h : Sep B w0 w (thS g n c d :: thB s 3 #[.int .i64 (sw : Nat)] :: ts)) (a b : Nat) (ha : a < n) (hb : b < n) (hn : n ≤ 1000000000000) (hsw : sw ≤ 1000) :
    Calls Try.prog 43 #[.slice (some ⟨g, 0, none⟩) n c, .int .i64 (a : Nat), .int .i64 (b : Nat), .pointer (some ⟨s, 0, none⟩)] w fun e w' => e = .returned (.tuple #[.int .i64 ((Go.Sort.order2 lt d a b sw).1 : Nat), .int .i64 ((Go.Sort.order2 lt d a b sw).2.1 : Nat)]) ∧ Sep B w0 w' (thS g n c d :: thB s 3 #[.int .i64 ((Go.Sort.order2 lt d a b sw).2.2 : Nat)] :: ts) := by
  unfold Go.Sort.order2
  have hnd := srt_len h
  have i0 : (0 : Int) ≤ (a : Int) := by omega
  have i1 : (a : Int) < (n : Int) := by omega
  have j0 : (0 : Int) ≤ (b : Int) := by omega
  have j1 : (b : Int) < (n : Int) := by omega
  have e1 := srt_cell h (i := b) (by omega)
  have e2 := srt_cell h (i := a) (by omega)
  obtain ⟨x1, hx1⟩ : ∃ x, x = d[b]! := ⟨_, rfl⟩
  obtain ⟨x2, hx2⟩ : ∃ x, x = d[a]! := ⟨_, rfl⟩
  rw [← hx1] at e1 ⊢
  rw [← hx2] at e2 ⊢
  have hp := plus_cell w
  have HC := Lib.hid (fun (y : More) => HL x1 x2 (plus w y))
  obtain ⟨r, hr⟩ : ∃ r, r = lt x1 x2 := ⟨_, rfl⟩
  rw [← hr] at HC ⊢
  have H0 := Lib.hid h
  clear HL h hx1 hx2 hnd hr
  go_enter Try.func43, Try.ntmps43
  go_wp2_with fail
  refine wp_region_tail_ext 8 (by kernel_rfl) (by kernel_rfl) ?_
  simp only [List.take_succ_cons, List.take_zero, List.drop_succ_cons, List.drop_zero]
  repeat (go_big_quiet_step (fail))
  refine wpQuiet_nil ?_
  rintro w2 ⟨y, rfl⟩
  have HC1 := Lib.hid (And.intro (HC.out y) (H0.out.go (plus_below w y)))
  clear HC e1 e2 hp H0
  go_wp2_with fail
  refine HC1.out.1.mono ?_
  rintro e w3 ⟨rfl, hw3⟩
  have hs : Sep B w0 w3 (thS g n c d :: thB s 3 #[.int .i64 (sw : Nat)] :: ts) := by rw [hw3]; exact HC1.out.2
  have HS := Lib.hid hs
  have C : cellsSay w3 s 0 [.int .i64 (sw : Nat)] := cells_say (hs.blk 1) _ 0 rfl
  simp only [cellsSay, Nat.reduceAdd, and_true] at C
  clear hw3 HC1 hs
  cases r with
  | false =>
    go_wp2_with fail
    go_ret2
    exact ⟨rfl, HS.out⟩
  | true =>
    go_wp2_with fail
    generalize hW : World.setCell _ _ _ = w4
    go_ret2
    exact ⟨rfl, HS.out.put 1 s [(0, .int .i64 ((sw + 1 : Nat) : Int))] #[.int .i64 ((sw + 1 : Nat) : Int)] (by rw [← hW]; rfl)⟩
set_option maxHeartbeats 4000000 in
theorem med_any (lt : Nat → Nat → Bool) (HL : ∀ (x y : Nat) (w : World), Calls Try.prog 32 #[.int .u32 ((x : Nat) : Int), .int .u32 ((y : Nat) : Int)] w fun e w' => e = .returned (.bool (lt x y)) ∧ w' = w) {B : Nat} {w0 w : World} {ts : List Kt} {g n c s sw : Nat} {d : Array Nat} (h : Sep B w0 w (thS g n c d :: thB s 3 #[.int .i64 (sw : Nat)] :: ts)) (x y z : Nat) (hx : x < n) (hy : y < n) (hz : z < n) (hn : n ≤ 1000000000000) (hsw : sw ≤ 100) :
    Calls Try.prog 41 #[.slice (some ⟨g, 0, none⟩) n c, .int .i64 (x : Nat), .int .i64 (y : Nat), .int .i64 (z : Nat), .pointer (some ⟨s, 0, none⟩)] w fun e w' => e = .returned (.int .i64 ((Go.Sort.median lt d x y z sw).1 : Nat)) ∧ (Go.Sort.median lt d x y z sw).1 < n ∧ (Go.Sort.median lt d x y z sw).2 ≤ sw + 3 ∧ Sep B w0 w' (thS g n c d :: thB s 3 #[.int .i64 ((Go.Sort.median lt d x y z sw).2 : Nat)] :: ts) := by
  unfold Go.Sort.median
  dsimp only
  have l1 := o2_lt lt d (sw := sw) hx hy
  have H1 := Lib.hid (ord2_any lt HL h x y hx hy hn (by omega))
  obtain ⟨⟨p1, q1, s1⟩, hr1⟩ : ∃ r, r = Go.Sort.order2 lt d x y sw := ⟨_, rfl⟩
  rw [← hr1] at l1 H1 ⊢
  dsimp only at l1 H1 ⊢
  have l2 := o2_lt lt d (sw := s1) l1.2.1 hz
  obtain ⟨⟨p2, q2, s2⟩, hr2⟩ : ∃ r, r = Go.Sort.order2 lt d q1 z s1 := ⟨_, rfl⟩
  rw [← hr2] at l2 ⊢
  have H2 := Lib.hid (fun (W : World) (hs : Sep B w0 W (thS g n c d :: thB s 3 #[.int .i64 (s1 : Nat)] :: ts)) => ord2_any lt HL hs q1 z l1.2.1 hz hn (by omega))
  rw [← hr2] at H2
  dsimp only at l2 H2 ⊢
  have l3 := o2_lt lt d (sw := s2) l1.1 l2.1
  have H3 := Lib.hid (fun (W : World) (hs : Sep B w0 W (thS g n c d :: thB s 3 #[.int .i64 (s2 : Nat)] :: ts)) => ord2_any lt HL hs p1 p2 l1.1 l2.1 hn (by omega))
  obtain ⟨⟨p3, q3, s3⟩, hr3⟩ : ∃ r, r = Go.Sort.order2 lt d p1 p2 s2 := ⟨_, rfl⟩
  rw [← hr3] at l3 H3 ⊢
  dsimp only at l3 H3 ⊢
  have HZ := Lib.hid (show q3 < n ∧ s3 ≤ sw + 3 by omega)
  clear HL h hr1 hr2 hr3 l1 l2 l3
  go_enter Try.func41, Try.ntmps41
  go_wp2_with fail
  refine H1.out.mono ?_
  rintro e w1 ⟨rfl, h1⟩
  have H4 := Lib.hid (H2.out _ h1)
  clear h1 H1 H2
  go_wp2_with fail
  refine H4.out.mono ?_
  rintro e w2 ⟨rfl, h2⟩
  have H5 := Lib.hid (H3.out _ h2)
  clear h2 H4 H3
  go_wp2_with fail
  refine H5.out.mono ?_
  rintro e w3 ⟨rfl, h3⟩
  have H6 := Lib.hid h3
  clear h3 H5
  go_wp2_with fail
  go_ret
  exact ⟨rfl, HZ.out.1, HZ.out.2, H6.out⟩
set_option maxHeartbeats 4000000 in
theorem medA_any (lt : Nat → Nat → Bool) (HL : ∀ (x y : Nat) (w : World), Calls Try.prog 32 #[.int .u32 ((x : Nat) : Int), .int .u32 ((y : Nat) : Int)] w fun e w' => e = .returned (.bool (lt x y)) ∧ w' = w) {B : Nat} {w0 w : World} {ts : List Kt} {g n c s sw : Nat} {d : Array Nat} (h : Sep B w0 w (thS g n c d :: thB s 3 #[.int .i64 (sw : Nat)] :: ts)) (x : Nat) (hx : 1 ≤ x) (hy : x + 1 < n) (hn : n ≤ 1000000000000) (hsw : sw ≤ 100) :
    Calls Try.prog 40 #[.slice (some ⟨g, 0, none⟩) n c, .int .i64 (x : Nat), .pointer (some ⟨s, 0, none⟩)] w fun e w' => e = .returned (.int .i64 ((Go.Sort.medianAdjacent lt d x sw).1 : Nat)) ∧ (Go.Sort.medianAdjacent lt d x sw).1 < n ∧ (Go.Sort.medianAdjacent lt d x sw).2 ≤ sw + 3 ∧ Sep B w0 w' (thS g n c d :: thB s 3 #[.int .i64 ((Go.Sort.medianAdjacent lt d x sw).2 : Nat)] :: ts) := by
  unfold Go.Sort.medianAdjacent
  have HC := Lib.hid (med_any lt HL h (x - 1) x (x + 1) (by omega) (by omega) hy hn hsw)
  obtain ⟨k, hk⟩ : ∃ k, k = x - 1 := ⟨_, rfl⟩
  rw [← hk] at HC ⊢
  have hk1 : (x : Int) - 1 = (k : Int) := by omega
  rw [show ((x + 1 : Nat) : Int) = (x : Int) + 1 by omega] at HC
  obtain ⟨R, hR⟩ : ∃ R, R = Go.Sort.median lt d k x (x + 1) sw := ⟨_, rfl⟩
  rw [← hR] at HC ⊢
  clear HL h hk hR
  go_enter Try.func40, Try.ntmps40
  go_wp2_with fail
  refine HC.out.mono ?_
  rintro e w1 ⟨rfl, h1⟩
  have H1 := Lib.hid h1
  clear h1 HC
  go_wp2_with fail
  go_ret
  exact ⟨rfl, H1.out⟩

end Go.Proofs.Ytgadedpcekiljaa
