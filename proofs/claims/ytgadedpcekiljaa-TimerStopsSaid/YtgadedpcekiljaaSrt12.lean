/- slices.Sort at []uint32: breakPatternsOrdered. -/
import Derived.Test.YtgadedpcekiljaaSrt11
import Derived.BigRegion
import Derived.Deep.LoopGhost
set_option linter.unusedSimpArgs false
set_option linter.unusedVariables false
namespace Go.Proofs.Ytgadedpcekiljaa
open Go.RowKit
set_option maxRecDepth 100000

def brk {α : Type} [Inhabited α] (a l m : Nat) : Nat → Nat → UInt64 × Array α → UInt64 × Array α
  | 0, _, st => st
  | s + 1, i, st => brk a l m s (i + 1) (Go.Sort.breakStep a l m st i)
theorem brk_eq {α : Type} [Inhabited α] (d : Array α) (a b : Nat) (h : b - a ≥ 8) : Go.Sort.breakPatterns d a b = (brk a (b - a) (1 <<< Go.Sort.bitsLen (b - a)) 3 (a + ((b - a) / 4) * 2 - 1) (UInt64.ofNat (b - a), d)).2 := by
  unfold Go.Sort.breakPatterns
  dsimp only
  rw [if_pos h]
  rfl
theorem and_bits (x y o : Nat) (hx : x < 18446744073709551616) (hy : y < 18446744073709551616) (ho : x &&& y = o) : bits BinOp.and IntKind.u64 ((x : Nat) : Int) ((y : Nat) : Int) = ((o : Nat) : Int) := by
  unfold bits
  have e : ∀ z : Nat, z < 18446744073709551616 → (BitVec.ofInt IntKind.u64.bits ((z : Nat) : Int)) = BitVec.ofNat 64 z := fun z hz => by
    apply BitVec.eq_of_toNat_eq
    have h1 : (BitVec.ofNat 64 z).toNat = z := by rw [BitVec.toNat_ofNat]; exact Nat.mod_eq_of_lt hz
    rw [BitVec.toNat_ofInt]
    show (((z : Nat) : Int) % ((2 ^ 64 : Nat) : Int)).toNat = (BitVec.ofNat 64 z).toNat
    rw [h1]
    omega
  dsimp only
  rw [e x hx, e y hy]
  have ho2 : o ≤ y := by rw [← ho]; exact Nat.and_le_right
  have e2 : ((BitVec.ofNat 64 x) &&& (BitVec.ofNat 64 y)).toNat = o := by
    rw [BitVec.toNat_and, BitVec.toNat_ofNat, BitVec.toNat_ofNat, Nat.mod_eq_of_lt hx, Nat.mod_eq_of_lt hy, ho]
  show IntKind.u64.wrap ((((BitVec.ofNat 64 x) &&& (BitVec.ofNat 64 y)).toNat : Nat) : Int) = _
  rw [e2, IntKind.wrap_u64]
  omega

set_option maxHeartbeats 16000000 in
theorem brk_any {B : Nat} {w0 w : World} {ts : List Kt} {g n c : Nat} {d : Array Nat} (h : Sep B w0 w (thS g n c d :: ts)) (a b : Nat) (hab : a + 8 ≤ b) (hb : b ≤ n) (hn : n ≤ 1000000000000) :
    Calls Try.prog 28 #[.slice (some ⟨g, 0, none⟩) n c, .int .i64 (a : Nat), .int .i64 (b : Nat)] w fun e w' => e = .returned (.tuple #[]) ∧ Sep B w0 w' (thS g n c (Go.Sort.breakPatterns d a b) :: ts) := by
  have hmx : Try.prog.follows .mixedOrders = true := by kernel_rfl
  obtain ⟨D, hD⟩ : ∃ D, D = Go.Sort.breakPatterns d a b := ⟨_, rfl⟩
  rw [← hD]
  rw [brk_eq d a b (by omega)] at hD
  obtain ⟨l, hl⟩ : ∃ l, l = b - a := ⟨_, rfl⟩
  rw [← hl] at hD
  have hP := pow2_any l
  have hm2 := Go.Sort.two_pow_bitsLen_le (n := l) (by omega)
  obtain ⟨M, hM⟩ : ∃ M : Nat, M = 1 <<< Go.Sort.bitsLen l := ⟨_, rfl⟩
  rw [← hM] at hP hD
  have hM2 : M ≤ 2 * l := by rw [hM, Nat.one_shiftLeft]; exact hm2
  have hM1 : 1 ≤ M := by rw [hM, Nat.one_shiftLeft]; exact Nat.one_le_two_pow
  obtain ⟨q, hq⟩ : ∃ q, q = l / 4 := ⟨_, rfl⟩
  rw [← hq] at hD
  obtain ⟨i0, hi0⟩ : ∃ i0, i0 = a + q * 2 - 1 := ⟨_, rfl⟩
  rw [← hi0] at hD
  have hv1 : (b : Int) - (a : Int) = (l : Int) := by omega
  have hv2 : (l : Int).tdiv 4 = (q : Int) := by rw [hq]; rfl
  have hv3 : (a : Int) + (q : Int) * 2 - 1 = (i0 : Int) := by omega
  have hl8 : decide ((8 : Int) ≤ (l : Int)) = true := decide_eq_true (by omega)
  have hl8' : (8 : Int) ≤ (l : Int) := by omega
  have hln : l ≤ 1000000000000 := by omega
  have hqn : q ≤ 1000000000000 := by omega
  have hin : i0 + 2 < b := by omega
  obtain ⟨W, hW⟩ : ∃ W, W = w.alloc (.cells #[.int .u64 (l : Nat)] 74) := ⟨_, rfl⟩
  obtain ⟨s, hs⟩ : ∃ s, s = w.heap.size := ⟨_, rfl⟩
  have hlu : (UInt64.ofNat l).toNat = l := by rw [UInt64.toNat_ofNat']; omega
  have h1 : Sep B w0 W (thB s 74 #[.int .u64 ((UInt64.ofNat l).toNat : Nat)] :: thS g n c d :: ts) := by
    rw [hW, hs, hlu]
    exact h.box #[.int .u64 (l : Nat)] 74
  have HC := Lib.hid (hP W hln)
  have HI : Hid (∃ (r : UInt64) (dd : Array Nat), Sep B w0 W (thB s 74 #[.int .u64 (r.toNat : Nat)] :: thS g n c dd :: ts) ∧ (brk a l M 3 i0 (r, dd)).2 = D) := Lib.hid ⟨_, _, h1, hD.symm⟩
  have HB := Lib.hid (And.intro hab (And.intro hl (And.intro hq (And.intro hi0 (And.intro hM2 hM1)))))
  clear hl hP hm2 hM hM2 hM1 hq hi0 hlu h1 hD h
  go_enter Try.func28, Try.ntmps28
  go_upto_region 3 with fail
  try rw [← hW, ← hs]
  clear hW hs
  go_wp2_with fail
  refine HC.out.mono ?_
  rintro e w1 ⟨rfl, hw1⟩
  rw [hw1]
  clear hw1 HC
  go_wp2_with fail
  go_loopg [9] 3 (fun gh s9 wr => ∃ k : Nat, s9 = .int .i64 k ∧ k + gh = i0 + 3 ∧ i0 ≤ k ∧ Hid (∃ (r : UInt64) (dd : Array Nat), Sep B w0 wr (thB s 74 #[.int .u64 (r.toNat : Nat)] :: thS g n c dd :: ts) ∧ (brk a l M gh k (r, dd)).2 = D))
  case atStart => exact ⟨i0, by first | rfl | go_num, rfl, Nat.le_refl _, HI⟩
  case round =>
    obtain ⟨k, rfl, hkg, hik, HR⟩ := hrel
    clear HI
    have hv4 : (a : Int) + (q : Int) * 2 + 1 = ((i0 + 2 : Nat) : Int) := by have := HB.out; omega
    obtain ⟨i2, hi2⟩ : ∃ x, x = i0 + 2 := ⟨_, rfl⟩
    rw [← hi2] at hv4
    obtain ⟨r, dd, hs, hd⟩ := HR.out
    clear hv3
    cases gk with
    | zero =>
      have hg : decide ((k : Int) ≤ (i2 : Int)) = false := decide_eq_false (by omega)
      have hg' : ¬ (k : Int) ≤ (i2 : Int) := by omega
      have hdd : dd = D := hd
      rw [hdd] at hs
      have HS := Lib.hid hs.tail
      clear hs hd hdd HR hi2
      go_wp2_with fail
      go_end0
      exact ⟨rfl, HS.out⟩
    | succ gg =>
      have hg : decide ((k : Int) ≤ (i2 : Int)) = true := decide_eq_true (by omega)
      have hg' : (k : Int) ≤ (i2 : Int) := by omega
      have HN := Lib.hid (next_any hs)
      obtain ⟨r2, hr2⟩ : ∃ x, x = Go.Sort.xorNext r := ⟨_, rfl⟩
      rw [← hr2] at HN
      obtain ⟨X, hX⟩ : ∃ x, x = r2.toNat := ⟨_, rfl⟩
      rw [← hX] at HN
      obtain ⟨M1, hM1⟩ : ∃ x, x = M - 1 := ⟨_, rfl⟩
      obtain ⟨O, hO⟩ : ∃ x, x = X &&& M1 := ⟨_, rfl⟩
      have hO2 : O ≤ M1 := by rw [hO]; exact Nat.and_le_right
      have hMl := HB.out.2.2.2.2.1
      have hMl1 := HB.out.2.2.2.2.2
      have hal := HB.out.2.1
      have hva : bits BinOp.and IntKind.u64 (X : Int) (M1 : Int) = (O : Int) := and_bits X M1 O (by rw [hX]; exact r2.toNat_lt) (by omega) hO.symm
      have hvm : (M : Int) - 1 = (M1 : Int) := by omega
      have hvw : IntKind.u64.wrap (M1 : Int) = (M1 : Int) := by rw [IntKind.wrap_u64]; omega
      have hO3 : O ≤ 2000000000000 := by omega
      have hO4 : O < 2 * l := by omega
      have HD : Hid (∀ oo, oo = (if O ≥ l then O - l else O) → (brk a l M gg (k + 1) (r2, Go.Sort.swp dd k (a + oo))).2 = D) := Lib.hid fun oo ho => by
        rw [← hd, ho]
        show _ = (brk a l M gg (k + 1) (Go.Sort.breakStep a l M (r, dd) k)).2
        unfold Go.Sort.breakStep
        dsimp only
        rw [← hr2, ← hX, ← hM1, ← hO]
      have HK := Lib.hid (And.intro hkg (And.intro hi2 hal))
      have HX := Lib.hid hX
      clear hX hO hM1 hMl hMl1 hr2 hs hd HR hi2 hal
      go_wp2_with fail
      refine HN.out.mono ?_
      rintro e w2 ⟨rfl, hs2⟩
      have HS2 := Lib.hid hs2
      clear hs2 HN
      by_cases hOl : O ≥ l
      case' pos =>
        have hgo : decide ((l : Int) ≤ (O : Int)) = true := decide_eq_true (by omega)
        have hgo' : (l : Int) ≤ (O : Int) := by omega
        obtain ⟨oo, hoo⟩ : ∃ x, x = O - l := ⟨_, rfl⟩
        have hvo : (O : Int) - (l : Int) = (oo : Int) := by omega
        have hol : oo < l := by omega
        have HD2 := Lib.hid (HD.out oo (by rw [if_pos hOl, hoo]))
        clear hoo
        go_upto_region 10 with fail
      case' neg =>
        have hgo : decide ((l : Int) ≤ (O : Int)) = false := decide_eq_false (by omega)
        have hgo' : ¬ (l : Int) ≤ (O : Int) := by omega
        have HD2 := Lib.hid (HD.out O (by rw [if_neg hOl]))
        have hol : O < l := by omega
        go_upto_region 10 with fail
        obtain ⟨oo, hoo⟩ : ∃ x, x = O := ⟨_, rfl⟩
        rw [← hoo] at HD2 hol ⊢
        clear hoo
      all_goals
        clear HD
        have hal := HK.out.2.2
        have hs := srt_perm HS2.out (List.Perm.swap _ _ _)
        have hnd := srt_len hs
        have hkb : k < n := by have := HK.out; omega
        have k0 : (0 : Int) ≤ (k : Int) := by omega
        have k1 : (k : Int) < (n : Int) := by omega
        have j0 : (0 : Int) ≤ (a : Int) + (oo : Int) := by omega
        have j1 : (a : Int) + (oo : Int) < (n : Int) := by omega
        obtain ⟨y1, hy1⟩ : ∃ x, x = dd[k]! := ⟨_, rfl⟩
        obtain ⟨y2, hy2⟩ : ∃ x, x = dd[a + oo]! := ⟨_, rfl⟩
        have e1 := srt_cell hs (i := k) (by omega)
        have e2 := srt_cell hs (i := a + oo) (by omega)
        have f1 := srt_froz hs k
        have f2 := srt_froz hs (a + oo)
        rw [← hy1] at e1
        rw [← hy2] at e2
        have e3 := srt_cell (srt_set hs k y2) (i := a + oo) (by simp; omega)
        have f3 := srt_froz (srt_set hs k y2) (a + oo)
        obtain ⟨y3, hy3⟩ : ∃ x, x = (dd.setIfInBounds k y2)[a + oo]! := ⟨_, rfl⟩
        rw [← hy3] at e3
        have h4 := srt_swp hs k (a + oo)
        rw [← hy1, ← hy2] at h4
        have H4 := Lib.hid (h4.go (Below.refl _ _).drew)
        clear hs hnd hy1 hy2 hy3 h4 HS2 hal hOl
        go_region
        obtain ⟨wv, hwv⟩ : ∃ W, W = ((w2.setCell ⟨g, k, none⟩ (.int .u32 ((y2 : Nat) : Int))).setCell ⟨g, a + oo, none⟩ (.int .u32 ((y1 : Nat) : Int))).drew := ⟨_, rfl⟩
        rw [← hwv] at H4 ⊢
        clear hwv e1 e2 f1 f2 e3 f3 j0 j1 k0 k1
        go_wp2_with fail
        go_roundg gg
        case measure => omega
        case rel => exact ⟨k + 1, by go_num, by have := HK.out; omega, by omega, Lib.hid ⟨_, _, by rw [← HX.out]; exact srt_perm H4.out (List.Perm.swap _ _ _), HD2.out⟩⟩

end Go.Proofs.Ytgadedpcekiljaa
