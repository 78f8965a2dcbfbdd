/- The statement BitCuts: the walk. -/
import Derived.Test.YtbogjnfjnchfhaaUp
import Derived.Test.YtbogjnfjnchfhaaLaw1
import Derived.Test.YtbogjnfjnchfhaaLaw4
import Derived.Test.YtbogjnfjnchfhaaRef8
import Derived.Test.YtbogjnfjnchfhaaBit6
import Derived.Outline
import Derived.Laws.Closers25b
import Derived.Test.YtbogjnfjnchfhaaBit7
namespace Go.Proofs.Ytbogjnfjnchfhaa
open Go.RowKit

theorem cutSpec_len (l : List UInt8) (n a b : Int) : (cutSpec l n a b).1.length ≤ l.length := by
  unfold cutSpec
  split
  · exact Nat.zero_le _
  · split
    · exact Nat.zero_le _
    · rename_i hs h
      obtain ⟨m, hm, _, hl⟩ := sound_nat (show soundB l n = true by simpa using hs)
      show (pack _).length ≤ _
      rw [pack_length, cutl_length, hl]
      unfold nb
      omega

theorem u8_byte (op : BinOp) (a b : Int) : ∃ y : UInt8, Value.int .u8 (bits op .u8 a b) = bv y :=
  ⟨UInt8.ofNat (bits op .u8 a b).toNat, by
    have h1 := bits_lo_u8 op a b
    have h2 := bits_hi_u8 op a b
    rw [bv, UInt8.toNat_ofNat_of_lt' (show (bits op .u8 a b).toNat < 256 by omega), Int.toNat_of_nonneg h1]⟩

theorem grown_cell2 {w w' : World} {row : Option Nat} (h : w.grownBy w' row) {p i : Nat} {v : Value} (hc : w.cell? ⟨p, i, none⟩ = some v) (hp : some p ≠ row) : w'.cell? ⟨p, i, none⟩ = some v :=
  h.cell hc hp
theorem only_below {w w' : World} {g : Nat} (h : w.grownBy w' (some g)) {B : Nat} (hB : B ≤ g) (hw : B ≤ w.heap.size) : Below B w w' := (Below.refl _ _).grown h hw fun k hk => by injection hk with hk; omega

set_option maxHeartbeats 2000000 in
theorem bitCuts_walk (A : Option Addr) (c : Nat) (l : List UInt8) (n a b : Int) (w : World) (hb : Bs w A l) (hn : -9223372036854775808 ≤ n ∧ n ≤ 9223372036854775807) (hl : l.length ≤ maxLen)
    (ha : -9223372036854775808 ≤ a ∧ a ≤ 9223372036854775807) (hwd : -9223372036854775808 ≤ b ∧ b ≤ 9223372036854775807) :
    Calls Try.prog 3 #[.agg #[.slice A l.length c, .int .i64 n], .int .i64 a, .int .i64 b] w fun e w' => e = .returned (.bool true) ∧ Below w.heap.size w w' := by
  unfold maxLen at hl
  by_cases h : 1500 < l.length
  · have hI : (1500 : Int) < l.length := by omega
    go_enter Try.func3, Try.ntmps3
    go_wp2_with (go_at_call 12; refine (known_any _).mono ?_; rintro e w1 ⟨rfl, hb1⟩)
    go_ret
    exact ⟨rfl, on1 (below_alloc _ _) hb1⟩
  · have hI : ¬ (1500 : Int) < l.length := by omega
    have hb0 := hb.below (below_alloc w (.cells #[.slice A l.length c, .int .i64 n] 24))
    obtain ⟨G, hG⟩ : ∃ G, G = cutSpec l n a b := ⟨_, rfl⟩
    have HG := Lib.hid hG
    have hc11 : G.2.2 ≤ 11 := by rw [hG]; exact cutSpec_code l n a b
    have hGl : G.1.length ≤ l.length := by rw [hG]; exact cutSpec_len l n a b
    clear hG
    go_enter Try.func3, Try.ntmps3
    have kA := keepA
    go_wp2_with fail
    refine Calls.mono (known_any _) ?_
    rintro e w1 ⟨rfl, hb1⟩
    have x1 := boxN hb1
    have t1 := go1 (w := w) hb1
    go_wp2_with fail
    refine Calls.mono (lent_any A c l n _ (hb.go hb1) (by omega)) ?_
    rintro e w2 ⟨A2, c2, rfl, hown2, hb2⟩
    have x2 := box hb2 x1
    have t2 := on t1 hb2
    have hB2 := hown2.bs
    have hB20 := Lib.hid hB2
    clear x1
    go_wp2_with fail
    refine Calls.mono (cut_any A2 c2 l n a b _ hB2.up hn (by omega) ha hwd) ?_
    rw [← HG.out]
    rintro e w3 ⟨A3, c3, rfl, hown3, hb3⟩
    have x3 := box hb3 x2
    have y3 := boxN hb3
    have t3 := on t2 hb3
    replace hB2 := hB2.go hb3
    clear x2
    go_wp2_with fail
    refine Calls.mono (refCut_any A c l n a b _ (hb.on t3) hn (by omega) ha hwd) ?_
    rw [← HG.out]
    rintro e w4 ⟨A4, c4, rfl, hown4, hb4⟩
    have x4 := box hb4 x3
    have y4 := box hb4 y3
    have z4 := boxN hb4
    have t4 := on t3 hb4
    replace hB2 := hB2.go hb4
    obtain ⟨g3, hg3⟩ : ∃ g3, g3 = w2.heap.size + 1 := ⟨_, rfl⟩
    rw [show (w2.alloc (.cells #[.slice A2 l.length c2, .int .i64 n] 24)).heap.size = g3 by rw [hg3]; simp] at hown3
    have hlt3 := fun g (h : (Value.slice A3 G.1.length c3).ownBlock = some g) => World.ownsRow.lt hown3 g h
    replace hown3 := hown3.go hb4
    have hB3 := hown3.bs
    have hB4 := hown4.bs
    clear x3 y3 hown2 hown4
    go_wp2_with fail
    refine Calls.mono (refSame_any A3 A4 c3 c4 G.1 G.1 G.2.1 G.2.1 _ hB3.up hB4.up) ?_
    rintro e w5 ⟨rfl, hb5⟩
    have x5 := box hb5 x4
    have y5 := box hb5 y4
    have z5 := box hb5 z4
    have t5 := on t4 hb5
    have s1 := (go1 (w := w.alloc (.cells #[.slice A l.length c, .int .i64 n] 24)) hb1).size
    have s2 := (go1 (w := w1) hb2).size
    simp only [World.size_alloc] at s1
    have v3 := go1 (w := w2) hb3
    have v4 := on v3 hb4
    have v5 := on v4 hb5
    have s3 := hb3.size
    simp only [World.size_alloc] at s3
    have s4 := (go1 (w := w3) hb4).size
    have s5 := (go1 (w := w4) hb5).size
    replace hB2 := hB2.go hb5
    replace hown3 := hown3.go hb5
    clear x4 y4 z4 hB3 hB4
    go_wp2_with fail
    go_loopw [13] (fun q wr => ∃ (k : Nat) (bb : List UInt8), k ≤ G.1.length ∧ q = .int .i64 k ∧ OwnB wr g3 (.slice A3 G.1.length c3) bb ∧ w5.grownBy wr (Value.slice A3 G.1.length c3).ownBlock)
      (fun q _ => G.1.length - (intOf q).toNat)
    case atStart => exact ⟨0, _, Nat.zero_le _, rfl, hown3, World.grownBy.refl _ _⟩
    case round =>
      obtain ⟨k, bb, hk, rfl, hown, hgr⟩ := hrel
      have hblN : bb.length = G.1.length := by have := hown.len (g := 0); omega
      have hz : ∀ g, (Value.slice A3 G.1.length c3).ownBlock = some g → g3 ≤ g ∧ g < w3.heap.size := hlt3
      have z0 := grown_cell2 hgr z5.1 (fun e => by have := hz _ e.symm; omega)
      have z1 := grown_cell2 hgr z5.2 (fun e => by have := hz _ e.symm; omega)
      have x0 := grown_cell2 hgr x5.1 (fun e => by have := hz _ e.symm; omega)
      have x1 := grown_cell2 hgr x5.2 (fun e => by have := hz _ e.symm; omega)
      have y0 := grown_cell2 hgr y5.1 (fun e => by have := hz _ e.symm; omega)
      have y1 := grown_cell2 hgr y5.2 (fun e => by have := hz _ e.symm; omega)
      have HB := Lib.hid hblN
      have hblN1 : G.1.length ≤ bb.length := by omega
      clear hblN
      by_cases hlt : k < G.1.length
      · obtain ⟨g, cap, hv, hgb, hgw, _⟩ := hown.form (by omega)
        injection hv with e1 e2 e3
        subst e1
        have hx := hown.cell k (by omega)
        have hfr := hown.frozen k
        have hg5 := hz g rfl
        obtain ⟨y, hy⟩ := u8_byte .xor (bb[k]'(by omega)).toNat 255
        have HY := Lib.hid hy
        clear hlt3 hz hy
        go_wp2
        go_region
        go_wp2
        go_roundw
        case measure => simp [intOf]; omega
        case rel =>
          rw [HY.out]
          exact ⟨k + 1, _, by omega, by go_num, (hown.set _ _).drew, only_drew (only_set hgr _ _)⟩
      · have hbe : Below g3 w5 wr := (Below.refl _ _).grown hgr (by omega) fun g hg => (hz g hg).1
        clear hlt3 hz
        have t6 : Below w.heap.size w wr := t5.trans (hbe.mono (by omega))
        have hA2 : Bs wr A2 l := hB20.out.below (v5.trans (hbe.mono (by omega)))
        go_wp2_with fail
        refine Calls.mono (refSame_any A2 A c2 c l l n n _ hA2 (hb.below t6)) ?_
        rintro e w7 ⟨rfl, hb7⟩
        have t7 := on t6 hb7
        go_wp2
        go_ret
        exact ⟨by simp, t7⟩

end Go.Proofs.Ytbogjnfjnchfhaa
