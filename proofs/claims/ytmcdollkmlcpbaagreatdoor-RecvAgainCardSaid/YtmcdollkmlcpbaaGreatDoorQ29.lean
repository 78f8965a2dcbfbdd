/- Joined: Srt12, Srt13, Srt14. -/
import Derived.Test.YtmcdollkmlcpbaaGreatDoorQ27
import Derived.BigRegion
import Derived.Deep.LoopGhost
set_option linter.unusedSimpArgs false
set_option linter.unusedVariables false
set_option linter.unusedSimpArgs false
set_option linter.unusedVariables false
namespace Go.Proofs.YtmcdollkmlcpbaaGreatDoor
open Go.RowKit
set_option maxRecDepth 100000
def brk {α : Type} [Inhabited α] (a l m : Nat) : Nat → Nat → UInt64 × Array α → UInt64 × Array α
 | 0, _, st => st
 | s + 1, i, st => brk a l m s (i + 1) (Go.Sort.breakStep a l m st i)
theorem brk_eq {α : Type} [Inhabited α] (d : Array α) (a b : Nat) (h : b - a ≥ 8) : Go.Sort.breakPatterns d a b = (brk a (b - a) (1 <<< Go.Sort.bitsLen (b - a)) 3 (a + ((b - a) / 4) * 2 - 1) (UInt64.ofNat (b - a), d)).2 := by
 unfold Go.Sort.breakPatterns
 dsimp only
 rw [if_pos h]
 rfl
theorem and_bits (x y o : Nat) (hx : x < 18446744073709551616) (hy : y < 18446744073709551616) (ho : x &&& y = o) : bits BinOp.and IntKind.u64 ((x : Nat) : Int) ((y : Nat) : Int) = ((o : Nat) : Int) := by
 unfold bits
 have e : ∀ z : Nat, z < 18446744073709551616 → (BitVec.ofInt IntKind.u64.bits ((z : Nat) : Int)) = BitVec.ofNat 64 z := fun z hz => by
  apply BitVec.eq_of_toNat_eq
  have h1 : (BitVec.ofNat 64 z).toNat = z := by rw [BitVec.toNat_ofNat]; exact Nat.mod_eq_of_lt hz
  rw [BitVec.toNat_ofInt]
  show (((z : Nat) : Int) % ((2 ^ 64 : Nat) : Int)).toNat = (BitVec.ofNat 64 z).toNat
  rw [h1]
  omega
 dsimp only
 rw [e x hx, e y hy]
 have ho2 : o ≤ y := by rw [← ho]; exact Nat.and_le_right
 have e2 : ((BitVec.ofNat 64 x) &&& (BitVec.ofNat 64 y)).toNat = o := by
  rw [BitVec.toNat_and, BitVec.toNat_ofNat, BitVec.toNat_ofNat, Nat.mod_eq_of_lt hx, Nat.mod_eq_of_lt hy, ho]
 show IntKind.u64.wrap ((((BitVec.ofNat 64 x) &&& (BitVec.ofNat 64 y)).toNat : Nat) : Int) = _
 rw [e2, IntKind.wrap_u64]
 omega
set_option maxHeartbeats 16000000 in
theorem brk_any {B : Nat} {w0 w : World} {ts : List Kt} {g n c : Nat} {d : Array Nat} (h : Sep B w0 w (thS g n c d :: ts)) (a b : Nat) (hab : a + 8 ≤ b) (hb : b ≤ n) (hn : n ≤ 1000000000000) :
  Calls Tryz.prog 79 #[.slice (some ⟨g, 0, none⟩) n c, .int .i64 (a : Nat), .int .i64 (b : Nat)] w fun e w' => e = .returned (.tuple #[]) ∧ Sep B w0 w' (thS g n c (Go.Sort.breakPatterns d a b) :: ts) := by
 have hmx : Tryz.prog.follows .mixedOrders = true := by kernel_rfl
 obtain ⟨D, hD⟩ : ∃ D, D = Go.Sort.breakPatterns d a b := ⟨_, rfl⟩
 rw [← hD]
 rw [brk_eq d a b (by omega)] at hD
 obtain ⟨l, hl⟩ : ∃ l, l = b - a := ⟨_, rfl⟩
 rw [← hl] at hD
 have hP := pow2_any l
 have hm2 := Go.Sort.two_pow_bitsLen_le (n := l) (by omega)
 obtain ⟨M, hM⟩ : ∃ M : Nat, M = 1 <<< Go.Sort.bitsLen l := ⟨_, rfl⟩
 rw [← hM] at hP hD
 have hM2 : M ≤ 2 * l := by rw [hM, Nat.one_shiftLeft]; exact hm2
 have hM1 : 1 ≤ M := by rw [hM, Nat.one_shiftLeft]; exact Nat.one_le_two_pow
 obtain ⟨q, hq⟩ : ∃ q, q = l / 4 := ⟨_, rfl⟩
 rw [← hq] at hD
 obtain ⟨i0, hi0⟩ : ∃ i0, i0 = a + q * 2 - 1 := ⟨_, rfl⟩
 rw [← hi0] at hD
 have hv1 : (b : Int) - (a : Int) = (l : Int) := by omega
 have hv2 : (l : Int).tdiv 4 = (q : Int) := by rw [hq]; rfl
 have hv3 : (a : Int) + (q : Int) * 2 - 1 = (i0 : Int) := by omega
 have hl8 : decide ((8 : Int) ≤ (l : Int)) = true := decide_eq_true (by omega)
 have hl8' : (8 : Int) ≤ (l : Int) := by omega
 have hln : l ≤ 1000000000000 := by omega
 have hqn : q ≤ 1000000000000 := by omega
 have hin : i0 + 2 < b := by omega
 obtain ⟨W, hW⟩ : ∃ W, W = w.alloc (.cells #[.int .u64 (l : Nat)] 180) := ⟨_, rfl⟩
 obtain ⟨s, hs⟩ : ∃ s, s = w.heap.size := ⟨_, rfl⟩
 have hlu : (UInt64.ofNat l).toNat = l := by rw [UInt64.toNat_ofNat']; omega
 have h1 : Sep B w0 W (thB s 180 #[.int .u64 ((UInt64.ofNat l).toNat : Nat)] :: thS g n c d :: ts) := by
  rw [hW, hs, hlu]
  exact h.box #[.int .u64 (l : Nat)] 180
 have HC := Lib.hid (hP W hln)
 have HI : Hid (∃ (r : UInt64) (dd : Array Nat), Sep B w0 W (thB s 180 #[.int .u64 (r.toNat : Nat)] :: thS g n c dd :: ts) ∧ (brk a l M 3 i0 (r, dd)).2 = D) := Lib.hid ⟨_, _, h1, hD.symm⟩
 have HB := Lib.hid (And.intro hab (And.intro hl (And.intro hq (And.intro hi0 (And.intro hM2 hM1)))))
 clear hl hP hm2 hM hM2 hM1 hq hi0 hlu h1 hD h
 go_enter Tryz.func79, Tryz.ntmps79
 go_upto_region 3 with fail
 try rw [← hW, ← hs]
 clear hW hs
 go_wp2_with fail
 refine HC.out.mono ?_
 rintro e w1 ⟨rfl, hw1⟩
 rw [hw1]
 clear hw1 HC
 go_wp2_with fail
 go_loopg [9] 3 (fun gh s9 wr => ∃ k : Nat, s9 = .int .i64 k ∧ k + gh = i0 + 3 ∧ i0 ≤ k ∧ Hid (∃ (r : UInt64) (dd : Array Nat), Sep B w0 wr (thB s 180 #[.int .u64 (r.toNat : Nat)] :: thS g n c dd :: ts) ∧ (brk a l M gh k (r, dd)).2 = D))
 case atStart => exact ⟨i0, by first | rfl | go_num, rfl, Nat.le_refl _, HI⟩
 case round =>
  obtain ⟨k, rfl, hkg, hik, HR⟩ := hrel
  clear HI
  have hv4 : (a : Int) + (q : Int) * 2 + 1 = ((i0 + 2 : Nat) : Int) := by have := HB.out; omega
  obtain ⟨i2, hi2⟩ : ∃ x, x = i0 + 2 := ⟨_, rfl⟩
  rw [← hi2] at hv4
  obtain ⟨r, dd, hs, hd⟩ := HR.out
  clear hv3
  cases gk with
  | zero =>
   have hg : decide ((k : Int) ≤ (i2 : Int)) = false := decide_eq_false (by omega)
   have hg' : ¬ (k : Int) ≤ (i2 : Int) := by omega
   have hdd : dd = D := hd
   rw [hdd] at hs
   have HS := Lib.hid hs.tail
   clear hs hd hdd HR hi2
   go_wp2_with fail
   go_end0
   exact ⟨rfl, HS.out⟩
  | succ gg =>
   have hg : decide ((k : Int) ≤ (i2 : Int)) = true := decide_eq_true (by omega)
   have hg' : (k : Int) ≤ (i2 : Int) := by omega
   have HN := Lib.hid (next_any hs)
   obtain ⟨r2, hr2⟩ : ∃ x, x = Go.Sort.xorNext r := ⟨_, rfl⟩
   rw [← hr2] at HN
   obtain ⟨X, hX⟩ : ∃ x, x = r2.toNat := ⟨_, rfl⟩
   rw [← hX] at HN
   obtain ⟨M1, hM1⟩ : ∃ x, x = M - 1 := ⟨_, rfl⟩
   obtain ⟨O, hO⟩ : ∃ x, x = X &&& M1 := ⟨_, rfl⟩
   have hO2 : O ≤ M1 := by rw [hO]; exact Nat.and_le_right
   have hMl := HB.out.2.2.2.2.1
   have hMl1 := HB.out.2.2.2.2.2
   have hal := HB.out.2.1
   have hva : bits BinOp.and IntKind.u64 (X : Int) (M1 : Int) = (O : Int) := and_bits X M1 O (by rw [hX]; exact r2.toNat_lt) (by omega) hO.symm
   have hvm : (M : Int) - 1 = (M1 : Int) := by omega
   have hvw : IntKind.u64.wrap (M1 : Int) = (M1 : Int) := by rw [IntKind.wrap_u64]; omega
   have hO3 : O ≤ 2000000000000 := by omega
   have hO4 : O < 2 * l := by omega
   have HD : Hid (∀ oo, oo = (if O ≥ l then O - l else O) → (brk a l M gg (k + 1) (r2, Go.Sort.swp dd k (a + oo))).2 = D) := Lib.hid fun oo ho => by
    rw [← hd, ho]
    show _ = (brk a l M gg (k + 1) (Go.Sort.breakStep a l M (r, dd) k)).2
    unfold Go.Sort.breakStep
    dsimp only
    rw [← hr2, ← hX, ← hM1, ← hO]
   have HK := Lib.hid (And.intro hkg (And.intro hi2 hal))
   have HX := Lib.hid hX
   clear hX hO hM1 hMl hMl1 hr2 hs hd HR hi2 hal
   go_wp2_with fail
   refine HN.out.mono ?_
   rintro e w2 ⟨rfl, hs2⟩
   have HS2 := Lib.hid hs2
   clear hs2 HN
   by_cases hOl : O ≥ l
   case' pos =>
    have hgo : decide ((l : Int) ≤ (O : Int)) = true := decide_eq_true (by omega)
    have hgo' : (l : Int) ≤ (O : Int) := by omega
    obtain ⟨oo, hoo⟩ : ∃ x, x = O - l := ⟨_, rfl⟩
    have hvo : (O : Int) - (l : Int) = (oo : Int) := by omega
    have hol : oo < l := by omega
    have HD2 := Lib.hid (HD.out oo (by rw [if_pos hOl, hoo]))
    clear hoo
    go_upto_region 10 with fail
   case' neg =>
    have hgo : decide ((l : Int) ≤ (O : Int)) = false := decide_eq_false (by omega)
    have hgo' : ¬ (l : Int) ≤ (O : Int) := by omega
    have HD2 := Lib.hid (HD.out O (by rw [if_neg hOl]))
    have hol : O < l := by omega
    go_upto_region 10 with fail
    obtain ⟨oo, hoo⟩ : ∃ x, x = O := ⟨_, rfl⟩
    rw [← hoo] at HD2 hol ⊢
    clear hoo
   all_goals
    clear HD
    have hal := HK.out.2.2
    have hs := srt_perm HS2.out (List.Perm.swap _ _ _)
    have hnd := srt_len hs
    have hkb : k < n := by have := HK.out; omega
    have k0 : (0 : Int) ≤ (k : Int) := by omega
    have k1 : (k : Int) < (n : Int) := by omega
    have j0 : (0 : Int) ≤ (a : Int) + (oo : Int) := by omega
    have j1 : (a : Int) + (oo : Int) < (n : Int) := by omega
    obtain ⟨y1, hy1⟩ : ∃ x, x = dd[k]! := ⟨_, rfl⟩
    obtain ⟨y2, hy2⟩ : ∃ x, x = dd[a + oo]! := ⟨_, rfl⟩
    have e1 := srt_cell hs (i := k) (by omega)
    have e2 := srt_cell hs (i := a + oo) (by omega)
    have f1 := srt_froz hs k
    have f2 := srt_froz hs (a + oo)
    rw [← hy1] at e1
    rw [← hy2] at e2
    have e3 := srt_cell (srt_set hs k y2) (i := a + oo) (by simp; omega)
    have f3 := srt_froz (srt_set hs k y2) (a + oo)
    obtain ⟨y3, hy3⟩ : ∃ x, x = (dd.setIfInBounds k y2)[a + oo]! := ⟨_, rfl⟩
    rw [← hy3] at e3
    have h4 := srt_swp hs k (a + oo)
    rw [← hy1, ← hy2] at h4
    have H4 := Lib.hid (h4.go (Below.refl _ _).drew)
    clear hs hnd hy1 hy2 hy3 h4 HS2 hal hOl
    go_region
    obtain ⟨wv, hwv⟩ : ∃ W, W = ((w2.setCell ⟨g, k, none⟩ (.int .u32 ((y2 : Nat) : Int))).setCell ⟨g, a + oo, none⟩ (.int .u32 ((y1 : Nat) : Int))).drew := ⟨_, rfl⟩
    rw [← hwv] at H4 ⊢
    clear hwv e1 e2 f1 f2 e3 f3 j0 j1 k0 k1
    go_wp2_with fail
    go_roundg gg
    case measure => omega
    case rel => exact ⟨k + 1, by go_num, by have := HK.out; omega, by omega, Lib.hid ⟨_, _, by rw [← HX.out]; exact srt_perm H4.out (List.Perm.swap _ _ _), HD2.out⟩⟩
end Go.Proofs.YtmcdollkmlcpbaaGreatDoor
set_option linter.unusedSimpArgs false
set_option linter.unusedVariables false
namespace Go.Proofs.YtmcdollkmlcpbaaGreatDoor
open Go.RowKit
set_option maxRecDepth 100000
def PQ (lt : Nat → Nat → Bool) (B : Nat) (w0 : World) (ts : List Kt) (g n c a b : Nat) (d : Array Nat) (a' b' : Nat) (w : World) : Prop :=
 ∃ dd, Sep B w0 w (thS g n c dd :: ts) ∧ Go.Sort.Below lt a' b' dd ∧ ∀ R, Go.Sort.PermIn a' b' dd R → Go.Sort.SortedIn lt a' b' R → Go.Sort.PermIn a b d R ∧ Go.Sort.SortedIn lt a b R
section
variable {lt : Nat → Nat → Bool} {B : Nat} {w0 w : World} {ts : List Kt} {g n c a b a' b' : Nat} {d dd dd' : Array Nat}
theorem PQ.of (hs : Sep B w0 w (thS g n c dd' :: ts)) (hn : n = dd.size) (hb : b' ≤ n) (hB : Go.Sort.Below lt a' b' dd) (hp : Go.Sort.PermIn a' b' dd dd') (hf : ∀ R, Go.Sort.PermIn a' b' dd R → Go.Sort.SortedIn lt a' b' R → Go.Sort.PermIn a b d R ∧ Go.Sort.SortedIn lt a b R) : PQ lt B w0 ts g n c a b d a' b' w :=
 ⟨dd', hs, hB.perm (by omega) hp, fun R h1 h2 => hf R (Go.Sort.permIn_trans _ _ _ a' b' hp h1) h2⟩
end
def QQ (lt : Nat → Nat → Bool) (B : Nat) (w0 : World) (ts : List Kt) (g n c a b : Nat) (d : Array Nat) (w : World) : Prop := ∃ d', Sep B w0 w (thS g n c d' :: ts) ∧ Go.Sort.PermIn a b d d' ∧ Go.Sort.SortedIn lt a b d'
theorem hint_le (h : Go.Sort.Hint) : hintV h ≤ 2 := by cases h <;> decide
set_option maxHeartbeats 16000000 in
theorem pdq_any (lt : Nat → Nat → Bool) (hS : Go.Sort.SWO lt) (HL : ∀ (x y : Nat) (w : World), Calls Tryz.prog 83 #[.int .u32 ((x : Nat) : Int), .int .u32 ((y : Nat) : Int)] w fun e w' => e = .returned (.bool (lt x y)) ∧ w' = w) : ∀ (m : Nat) {B : Nat} {w0 w : World} {ts : List Kt} {g n c : Nat} {d : Array Nat} (h : Sep B w0 w (thS g n c d :: ts)) (a b lim : Nat) (hm : b - a = m) (hab : a ≤ b) (hb : b ≤ n) (hn : n ≤ 1000000000000) (hl : lim ≤ 100) (hB : Go.Sort.Below lt a b d),
  Calls Tryz.prog 65 #[.slice (some ⟨g, 0, none⟩) n c, .int .i64 (a : Nat), .int .i64 (b : Nat), .int .i64 (lim : Nat)] w fun e w' => e = .returned (.tuple #[]) ∧ QQ lt B w0 ts g n c a b d w' := by
 intro m
 induction m using Nat.strongRecOn with
 | _ m ih =>
 intro B w0 w ts g n c d h a b lim hm hab hb hn hl hB
 have hmx : Tryz.prog.follows .mixedOrders = true := by kernel_rfl
 have hL := Lib.hid HL
 have HS := Lib.hid hS
 have H0 : Hid (PQ lt B w0 ts g n c a b d a b w) := Lib.hid ⟨d, h, hB, fun R h1 h2 => ⟨h1, h2⟩⟩
 have IH : Hid (∀ (a' b' lim' : Nat) {w : World} {d : Array Nat}, a ≤ a' → b' ≤ b → a' ≤ b' → b' - a' < b - a → lim' ≤ 100 → Sep B w0 w (thS g n c d :: ts) → Go.Sort.Below lt a' b' d → Calls Tryz.prog 65 #[.slice (some ⟨g, 0, none⟩) n c, .int .i64 (a' : Nat), .int .i64 (b' : Nat), .int .i64 (lim' : Nat)] w fun e w' => e = .returned (.tuple #[]) ∧ QQ lt B w0 ts g n c a' b' d w') := Lib.hid fun a' b' lim' w d h1 h2 h3 h4 h5 h6 h7 => ih (b' - a') (by omega) h6 a' b' lim' rfl h3 (by omega) hn h5 h7
 clear HL hS h hm ih
 clear hB
 go_enter Tryz.func65, Tryz.ntmps65
 go_wp2_with fail
 go_loopg [1, 2, 3, 8, 9] (b - a) (fun gh s1 s2 s3 s8 s9 wr => ∃ (a' b' lim' : Nat) (wb wp : Bool), s1 = .int .i64 a' ∧ s2 = .int .i64 b' ∧ s3 = .int .i64 lim' ∧ s8 = .bool wb ∧ s9 = .bool wp ∧ a' + gh = b' ∧ a ≤ a' ∧ b' ≤ b ∧ lim' ≤ 100 ∧ Hid (PQ lt B w0 ts g n c a b d a' b' wr))
 case atStart => exact ⟨a, b, lim, true, true, rfl, rfl, rfl, rfl, rfl, by omega, Nat.le_refl _, Nat.le_refl _, hl, H0⟩
 case round =>
  obtain ⟨p, q, lm, wb, wp, rfl, rfl, rfl, rfl, rfl, hpq, hap, hqb, hlm, HR⟩ := hrel
  clear H0 hl
  obtain ⟨l, hl⟩ : ∃ l, l = q - p := ⟨_, rfl⟩
  have hv1 : (q : Int) - (p : Int) = (l : Int) := by omega
  have hll : l ≤ 1000000000000 := by omega
  have HP := Lib.hid (And.intro hl (And.intro hpq (And.intro hap hqb)))
  clear hl hpq hap hqb
  by_cases h12 : l ≤ 12
  ·have hg : decide ((l : Int) ≤ 12) = true := decide_eq_true (by omega)
   have hg' : (l : Int) ≤ 12 := by omega
   obtain ⟨dd, hs, hBe, hf⟩ := HR.out
   have hnd := srt_len hs
   have HC := Lib.hid (ins_any lt hL.out hs p q (by have := HP.out; omega) (by have := HP.out; omega) hn)
   have HF : Hid (Go.Sort.PermIn a b d (Go.Sort.insertionSort lt dd p q) ∧ Go.Sort.SortedIn lt a b (Go.Sort.insertionSort lt dd p q)) := Lib.hid (by
    have h1 := Go.Sort.insertionSort_holds (lt := lt) HS.out dd p q (by have := HP.out; omega) (by have := HP.out; omega)
    exact hf _ h1.1 h1.2)
   clear hs hBe hf hnd HR h12
   go_wp2_with fail
   refine HC.out.mono ?_
   rintro e w1 ⟨rfl, h1⟩
   have H1 := Lib.hid h1
   clear h1 HC
   go_wp2_with fail
   first | go_end0 | (refine bodyPost_ret (results_none rfl _ _ _) rfl ?_)
   exact ⟨rfl, _, H1.out, HF.out⟩
  ·have hg : decide ((l : Int) ≤ 12) = false := decide_eq_false (by omega)
   have hg' : ¬ (l : Int) ≤ 12 := by omega
   by_cases hl0 : lm = 0
   ·have hz : ((lm : Int) == 0) = true := beq_iff_eq.2 (by omega)
    obtain ⟨dd, hs, hBe, hf⟩ := HR.out
    have hnd := srt_len hs
    have HC := Lib.hid (heap_any lt hL.out hs p q (by have := HP.out; omega) (by have := HP.out; omega) hn)
    have HF : Hid (Go.Sort.PermIn a b d (Go.Sort.heapSort lt dd p q) ∧ Go.Sort.SortedIn lt a b (Go.Sort.heapSort lt dd p q)) := Lib.hid (by
     have h1 := Go.Sort.heapSort_holds (lt := lt) HS.out dd p q (by have := HP.out; omega) (by have := HP.out; omega)
     exact hf _ h1.1 h1.2)
    clear hs hBe hf hnd HR h12 hl0
    go_wp2_with fail
    refine HC.out.mono ?_
    rintro e w1 ⟨rfl, h1⟩
    have H1 := Lib.hid h1
    clear h1 HC
    go_wp2_with fail
    first | go_end0 | (refine bodyPost_ret (results_none rfl _ _ _) rfl ?_)
    exact ⟨rfl, _, H1.out, HF.out⟩
   ·have hz : ((lm : Int) == 0) = false := beq_eq_false_iff_ne.2 (by omega)
    go_upto_if 35 with fail
    go_cut [3] (fun s3 wx => ∃ lm2 : Nat, s3 = .int .i64 lm2 ∧ lm2 ≤ 100 ∧ Hid (PQ lt B w0 ts g n c a b d p q wx))
    case first =>
     cases wb
     ·obtain ⟨dd, hs, hBe, hf⟩ := HR.out
      have hnd := srt_len hs
      have HC := Lib.hid (brk_any hs p q (by have := HP.out; omega) (by have := HP.out; omega) hn)
      have HF := Lib.hid (fun (W : World) (hw : Sep B w0 W (thS g n c (Go.Sort.breakPatterns dd p q) :: ts)) => PQ.of hw hnd (by have := HP.out; omega) hBe (Go.Sort.breakPatterns_holds dd p q (by have := HP.out; omega) (by have := HP.out; omega)) hf)
      clear hs hBe hf hnd HR
      obtain ⟨lm2, hlm2⟩ : ∃ x, x = lm - 1 := ⟨_, rfl⟩
      have hv : (lm : Int) - 1 = (lm2 : Int) := by omega
      have hlm3 : lm2 ≤ 100 := by omega
      clear hlm2 hl0
      go_wp2_with fail
      refine HC.out.mono ?_
      rintro e w1 ⟨rfl, h1⟩
      have H1 := Lib.hid (HF.out _ h1)
      clear h1 HC HF
      go_wp2_with fail
      go_meet
      exact ⟨lm2, rfl, hlm3, H1⟩
     ·clear hl0
      go_wp2_with fail
      go_meet
      exact ⟨lm, rfl, hlm, HR⟩
    case rest =>
     obtain ⟨lm2, rfl, hlm2, HR1⟩ := hcut
     clear HR hl0 hz hlm
     obtain ⟨dd, hs, hBe, hf⟩ := HR1.out
     have hnd := srt_len hs
     have HC := Lib.hid (choose_any lt hL.out hs p q (by have := HP.out; omega) (by have := HP.out; omega) hn)
     have hpc := Go.Sort.choosePivot_holds lt dd p q (by have := HP.out; omega)
     have hhc := hint_le (Go.Sort.choosePivot lt dd p q).2
     obtain ⟨pv, hpv⟩ : ∃ x, x = (Go.Sort.choosePivot lt dd p q).1 := ⟨_, rfl⟩
     obtain ⟨hi, hhi⟩ : ∃ x, x = hintV (Go.Sort.choosePivot lt dd p q).2 := ⟨_, rfl⟩
     rw [← hpv, ← hhi] at HC
     rw [← hpv] at hpc
     rw [← hhi] at hhc
     have HV := Lib.hid hpc
     have HH : Hid (∀ (W : World), Sep B w0 W (thS g n c dd :: ts) → PQ lt B w0 ts g n c a b d p q W) := Lib.hid (fun W hw => ⟨dd, hw, hBe, hf⟩)
     clear hs hBe hf hnd HR1 hpv hhi hpc
     go_wp2_with fail
     refine HC.out.mono ?_
     rintro e w1 ⟨rfl, h1⟩
     have H1 := Lib.hid (HH.out _ h1)
     clear h1 HC HH
     go_upto_if 50 with fail
     go_cut [11, 12] (fun s11 s12 wx => ∃ pv2 hi2 : Nat, s11 = .int .i64 pv2 ∧ s12 = .int .i64 hi2 ∧ Hid (p ≤ pv2 ∧ pv2 < q) ∧ Hid (PQ lt B w0 ts g n c a b d p q wx))
     case first =>
      by_cases h2 : hi = 2
      ·have hz : ((hi : Int) == 2) = true := beq_iff_eq.2 (by omega)
       obtain ⟨dd, hs, hBe, hf⟩ := H1.out
       have hnd := srt_len hs
       have HC := Lib.hid (rev_any hs p q (by have := HP.out; omega) (by have := HP.out; omega) (by have := HP.out; omega) hn)
       have HF := Lib.hid (fun (W : World) (hw : Sep B w0 W (thS g n c (Go.Sort.reverseRange dd p q) :: ts)) => PQ.of hw hnd (by have := HP.out; omega) hBe (Go.Sort.reverseRange_holds dd p q (by have := HP.out; omega) (by have := HP.out; omega)) hf)
       obtain ⟨pv2, hpv2⟩ : ∃ x, x = (q - 1) - (pv - p) := ⟨_, rfl⟩
       have hv : (q : Int) - 1 - ((pv : Int) - (p : Int)) = (pv2 : Int) := by have := HV.out; omega
       have HV2 : Hid (p ≤ pv2 ∧ pv2 < q) := Lib.hid (by have := HV.out; omega)
       have b1 : pv ≤ n := by have := HV.out; have := HP.out; omega
       have b2 : p ≤ pv := HV.out.1
       have b3 : q ≤ n := by have := HP.out; omega
       have b4 : p ≤ n := by omega
       have b5 : pv2 ≤ n := by have := HV2.out; omega
       clear hs hBe hf hnd H1 hpv2 h2
       try rw [hz]
       go_wp2_with fail
       refine HC.out.mono ?_
       rintro e w1 ⟨rfl, h1⟩
       have H1 := Lib.hid (HF.out _ h1)
       clear h1 HC HF
       go_wp2_with fail
       go_meet
       exact ⟨pv2, 1, rfl, rfl, HV2, H1⟩
      ·have hz : ((hi : Int) == 2) = false := beq_eq_false_iff_ne.2 (by omega)
       clear h2
       try rw [hz]
       go_wp2_with fail
       go_meet
       exact ⟨pv, hi, rfl, rfl, HV, H1⟩
     case rest =>
      obtain ⟨pv2, hi2, rfl, rfl, HV2, HR1⟩ := hcut
      clear H1 HV hhc
      go_upto_region 15 with fail
      go_cut [68] (fun s68 wx => ∃ t : Bool, s68 = .bool t ∧ Hid (PQ lt B w0 ts g n c a b d p q wx))
      case first =>
       obtain ⟨t, ht⟩ : ∃ t : Bool, ((hi2 : Int) == 1) = t := ⟨_, rfl⟩
       cases wb <;> cases wp <;> (go_wp2_with fail; go_meet; exact ⟨_, rfl, HR1⟩)
      case rest =>
       obtain ⟨t, rfl, HR2⟩ := hcut
       clear HR1
       go_upto_if 68 with fail
       go_cut [72] (fun s72 wx => Hid (PQ lt B w0 ts g n c a b d p q wx))
       case first =>
        cases t
        ·go_wp2_with fail
         go_meet
         exact HR2
        ·obtain ⟨dd, hs, hBe, hf⟩ := HR2.out
         have hnd := srt_len hs
         have HC := Lib.hid (pins_any lt hL.out hs p q (by have := HP.out; omega) (by have := HP.out; omega) hn)
         have hpi := Go.Sort.partialInsertionSort_holds (lt := lt) HS.out dd p q (by have := HP.out; omega) (by have := HP.out; omega) hBe
         obtain ⟨r, hr⟩ : ∃ x, x = (Go.Sort.partialInsertionSort lt dd p q).2 := ⟨_, rfl⟩
         have HF := Lib.hid (fun (W : World) (hw : Sep B w0 W (thS g n c (Go.Sort.partialInsertionSort lt dd p q).1 :: ts)) => And.intro (PQ.of hw hnd (by have := HP.out; omega) hBe hpi.1 hf) (fun (hr2 : r = true) => (⟨_, hw, hf _ hpi.1 (hpi.2 (by rw [← hr]; exact hr2))⟩ : QQ lt B w0 ts g n c a b d W)))
         rw [← hr] at HC
         clear hs hBe hf hnd HR2 hpi hr
         go_wp2_with fail
         refine HC.out.mono ?_
         rintro e w1 ⟨rfl, h1⟩
         have H1 := Lib.hid (HF.out _ h1)
         clear h1 HC HF
         cases r
         ·go_wp2_with fail
          go_meet
          exact Lib.hid H1.out.1
         ·go_wp2_with fail
          first | go_end0 | (refine bodyPost_ret (results_none rfl _ _ _) rfl ?_)
          exact ⟨rfl, H1.out.2 (by first | rfl | trivial)⟩
       case rest =>
        have HR3 := hcut
        clear HR2 hcut
        obtain ⟨dd, hs, hBe, hf⟩ := HR3.out
        have hnd := srt_len hs
        clear HR3
        have b1 : pv2 < n := by have := HV2.out; have := HP.out; omega
        have b2 : p < n := by have := HV2.out; have := HP.out; omega
        have b0 : (0 : Int) ≤ (pv2 : Int) := by omega
        have b1' : (pv2 : Int) < (n : Int) := by omega
        have b3 : q ≤ n := by have := HP.out; omega
        by_cases hp0 : 0 < p
        case' pos =>
         have hg1 : decide ((0 : Int) < (p : Int)) = true := decide_eq_true (by omega)
         have hg1' : (0 : Int) < (p : Int) := by omega
         obtain ⟨p1, hp1⟩ : ∃ x, p = x + 1 := ⟨p - 1, by omega⟩
         have c0 : (0 : Int) ≤ (p : Int) - 1 := by omega
         have c1 : (p : Int) - 1 < (n : Int) := by omega
         obtain ⟨x1, hx1⟩ : ∃ x, x = dd[p - 1]! := ⟨_, rfl⟩
         obtain ⟨x2, hx2⟩ : ∃ x, x = dd[pv2]! := ⟨_, rfl⟩
         have e1 := srt_cell hs (i := p - 1) (by omega)
         have e2 := srt_cell hs (i := pv2) (by omega)
         rw [← hx1] at e1
         rw [← hx2] at e2
         obtain ⟨r, hr⟩ : ∃ r, r = lt x1 x2 := ⟨_, rfl⟩
         have hp := plus_cell wc
         have HC := Lib.hid (fun (y : More) => And.intro (hL.out x1 x2 (plus wc y)) (hs.go (plus_below wc y)))
         rw [← hr] at HC
         rw [hx1, hx2] at hr
         have HX := Lib.hid (And.intro hr (And.intro hBe (And.intro hf (And.intro hnd hp1))))
         clear hx1 hx2 hr hs hBe hf hnd hp1
         go_wp2_with fail
         refine wp_region_tail_ext 12 (by kernel_rfl) (by kernel_rfl) ?_
         simp only [List.take_succ_cons, List.take_zero, List.drop_succ_cons, List.drop_zero]
         repeat (go_big_quiet_step (fail))
         refine wpQuiet_nil ?_
         rintro w2 ⟨y, rfl⟩
         have HC1 := Lib.hid (HC.out y)
         clear HC e1 e2 hp
         go_wp2_with fail
         refine HC1.out.1.mono ?_
         rintro e wx ⟨rfl, hw3⟩
         have HSx : Hid (Sep B w0 wx (thS g n c dd :: ts)) := Lib.hid (by rw [hw3]; exact HC1.out.2)
         clear hw3 HC1
         have HX3 := Lib.hid HX.out.2
         cases r
         case' false =>
          have HC := Lib.hid (peq_any lt hL.out HSx.out p q pv2 (by have := HV2.out; omega) b1 b3 hn)
          obtain ⟨⟨mid, d4⟩, hres⟩ : ∃ x, x = Go.Sort.partitionEqual lt dd p q pv2 := ⟨_, rfl⟩
          rw [← hres] at HC
          have hre := Go.Sort.round_eq HS.out (Go.Sort.partitionEqual_holds lt) (d3 := dd) (d4 := d4) (a := p) (b := q) (pivot := pv2) (mid := mid) hp0 HV2.out.1 HV2.out.2 (by have := HX.out.2.2.2.1; omega) HX.out.2.1 HX.out.1.symm hres.symm
          have HF := Lib.hid (And.intro hre HX.out.2.2.1)
          have hpm : p < mid := hre.1
          have hmq : mid ≤ q := hre.2.1
          clear hres hre hp0 HX HX3 HSx
          go_wp2_with fail
          refine HC.out.mono ?_
          rintro e w5 ⟨rfl, h5⟩
          have H5 : Hid (PQ lt B w0 ts g n c a b d mid q w5) := Lib.hid ⟨d4, h5, HF.out.1.2.2.2.1, fun R h1 h2 => HF.out.2 R (HF.out.1.2.2.2.2 R h1 h2).1 (HF.out.1.2.2.2.2 R h1 h2).2⟩
          clear h5 HC HF
          go_wp2_with fail
          go_roundg (q - mid)
          case measure => have := HP.out; omega
          case rel => exact ⟨mid, q, lm2, wb, wp, rfl, rfl, rfl, rfl, rfl, by omega, by have := HP.out; omega, by have := HP.out; omega, hlm2, H5⟩
         case' true => clear hp0 HX
        case' neg =>
         have hg1 : decide ((0 : Int) < (p : Int)) = false := decide_eq_false (by omega)
         have hg1' : ¬ (0 : Int) < (p : Int) := by omega
         have hg2 : decide (0 < p) = false := decide_eq_false hp0
         have hg2' : ¬ 0 < p := hp0
         have hp := plus_cell wc
         have HS0 := Lib.hid hs
         have HX3 := Lib.hid (And.intro hBe (And.intro hf (And.intro hnd hp0)))
         clear hs hBe hf hnd hp0
         go_wp2_with fail
         refine wp_region_ext hmx (by kernel_rfl) ?_
         repeat (go_big_quiet_step (fail))
         refine wpQuiet_nil ?_
         rintro wx ⟨y, hwx⟩
         have HSx : Hid (Sep B w0 wx (thS g n c dd :: ts)) := Lib.hid (by rw [hwx]; exact HS0.out.go (plus_below wc y))
         clear hwx hp HS0
        all_goals
         have HC := Lib.hid (part_any lt hL.out HSx.out p q pv2 (by have := HV2.out; omega) b1 b3 hn)
         obtain ⟨⟨mid, ap, d4⟩, hres⟩ : ∃ x, x = Go.Sort.partition lt dd p q pv2 := ⟨_, rfl⟩
         rw [← hres] at HC
         have hre := Go.Sort.round_part HS.out (Go.Sort.partition_holds lt) (d3 := dd) (d4 := d4) (a := p) (b := q) (pivot := pv2) (mid := mid) (ap := ap) HV2.out.1 HV2.out.2 (by have := HX3.out.2.2.1; omega) HX3.out.1 hres.symm
         have HF := Lib.hid (And.intro hre HX3.out.2.1)
         have hpm : p ≤ mid := hre.1
         have hmq : mid < q := hre.2.1
         have hmn : mid < n := by omega
         obtain ⟨L1, hL1⟩ : ∃ x, x = mid - p := ⟨_, rfl⟩
         obtain ⟨L2, hL2⟩ : ∃ x, x = q - mid := ⟨_, rfl⟩
         obtain ⟨th, hth⟩ : ∃ x, x = l / 8 := ⟨_, rfl⟩
         have hva : (mid : Int) - (p : Int) = (L1 : Int) := by omega
         have hvb : (q : Int) - (mid : Int) = (L2 : Int) := by omega
         have hvt : (l : Int).tdiv 8 = (th : Int) := by rw [hth]; rfl
         have HL2 := Lib.hid (And.intro hL1 hL2)
         have hL3 : L1 ≤ n := by omega
         have hL4 : L2 ≤ n := by omega
         have hth2 : th ≤ 1000000000000 := by omega
         clear hres hre HX3 HSx hL1 hL2 hth
         go_wp2_with fail
         refine HC.out.mono ?_
         rintro e w5 ⟨rfl, h5⟩
         have H5 := Lib.hid h5
         clear h5 HC
         by_cases hlr : L1 < L2
         ·have hgl : decide ((L1 : Int) < (L2 : Int)) = true := decide_eq_true (by omega)
          have hgl' : (L1 : Int) < (L2 : Int) := by omega
          have HC := Lib.hid (IH.out p mid lm2 (by have := HP.out; omega) (by have := HP.out; omega) hpm (by have := HP.out; omega) hlm2 H5.out HF.out.1.2.2.2.1)
          clear hlr H5
          go_wp2_with fail
          refine HC.out.mono ?_
          rintro e w6 ⟨rfl, L, h6, h7, h8⟩
          have H6 : Hid (PQ lt B w0 ts g n c a b d (mid + 1) q w6) := Lib.hid ⟨L, h6, (HF.out.1.2.2.2.2.2.1 L h7 h8).1, fun R r1 r2 => HF.out.2 R ((HF.out.1.2.2.2.2.2.1 L h7 h8).2 R r1 r2).1 ((HF.out.1.2.2.2.2.2.1 L h7 h8).2 R r1 r2).2⟩
          clear h6 h7 h8 HC HF
          go_wp2_with fail
          go_roundg (q - (mid + 1))
          case measure => have := HP.out; omega
          case rel => exact ⟨mid + 1, q, lm2, _, _, by go_num, rfl, rfl, rfl, rfl, by omega, by have := HP.out; omega, by have := HP.out; omega, hlm2, H6⟩
         ·have hgl : decide ((L1 : Int) < (L2 : Int)) = false := decide_eq_false (by omega)
          have hgl' : ¬ (L1 : Int) < (L2 : Int) := by omega
          obtain ⟨mm, hmm⟩ : ∃ x, x = mid + 1 := ⟨_, rfl⟩
          have hvm : (mid : Int) + 1 = (mm : Int) := by omega
          have HC := Lib.hid (IH.out mm q lm2 (by have := HP.out; omega) (by have := HP.out; omega) (by omega) (by have := HP.out; omega) hlm2 H5.out (by rw [hmm]; exact HF.out.1.2.2.2.2.1))
          have HM := Lib.hid hmm
          clear hlr H5 hmm
          go_wp2_with fail
          refine HC.out.mono ?_
          rintro e w6 ⟨rfl, L, h6, h7, h8⟩
          rw [HM.out] at h7 h8
          have H6 : Hid (PQ lt B w0 ts g n c a b d p mid w6) := Lib.hid ⟨L, h6, (HF.out.1.2.2.2.2.2.2 L h7 h8).1, fun R r1 r2 => HF.out.2 R ((HF.out.1.2.2.2.2.2.2 L h7 h8).2 R r1 r2).1 ((HF.out.1.2.2.2.2.2.2 L h7 h8).2 R r1 r2).2⟩
          clear h6 h7 h8 HC HF
          go_wp2_with fail
          go_roundg (mid - p)
          case measure => have := HP.out; omega
          case rel => exact ⟨p, mid, lm2, _, _, rfl, rfl, rfl, rfl, rfl, by omega, by have := HP.out; omega, by have := HP.out; omega, hlm2, H6⟩
end Go.Proofs.YtmcdollkmlcpbaaGreatDoor
set_option linter.unusedSimpArgs false
set_option linter.unusedVariables false
namespace Go.Proofs.YtmcdollkmlcpbaaGreatDoor
open Go.RowKit
set_option maxRecDepth 100000
theorem swo_ltN : Go.Sort.SWO ltN where
 irrefl := fun x => by simp [ltN]
 trans := fun x y z h1 h2 => by simp [ltN] at h1 h2 ⊢; omega
 ntrans := fun x y z h1 h2 => by simp [ltN] at h1 h2 ⊢; omega
def SortOf (d d' : Array Nat) : Prop := d'.toList.Perm d.toList ∧ d'.toList.Pairwise (· ≤ ·)
theorem SortOf.of {d d' : Array Nat} (hp : Go.Sort.PermIn 0 d.size d d') (hs : Go.Sort.SortedIn ltN 0 d.size d') : SortOf d d' := by
 obtain ⟨h1, h2, h3⟩ := hp
 rw [← h1] at h3
 rw [Array.extract_eq_self_of_le (Nat.le_refl _)] at h3
 rw [h1, Array.extract_eq_self_of_le (Nat.le_refl _)] at h3
 refine ⟨h3, List.pairwise_iff_getElem.2 fun i j hi hj hij => ?_⟩
 have h4 := hs i j (Nat.zero_le _) hij (by rw [← h1]; simpa using hj)
 rw [getElem!_pos d' i (by simpa using hi), getElem!_pos d' j (by simpa using hj)] at h4
 simp [ltN] at h4
 simpa using h4
set_option maxHeartbeats 4000000 in
theorem sort_u32 {B : Nat} {w0 w : World} {ts : List Kt} {g n c : Nat} {d : Array Nat} (h : Sep B w0 w (thS g n c d :: ts)) (hn : n ≤ 1000000000000) :
  Calls Tryz.prog 50 #[.slice (some ⟨g, 0, none⟩) n c] w fun e w' => e = .returned (.tuple #[]) ∧ ∃ d', Sep B w0 w' (thS g n c d' :: ts) ∧ SortOf d d' := by
 have hnd := srt_len h
 have H1 := Lib.hid (len_any n w hn)
 obtain ⟨k, hk⟩ : ∃ k, k = Go.Sort.bitsLen n := ⟨_, rfl⟩
 have hk40 := bl_le n hn
 rw [← hk] at H1 hk40
 have H2 := Lib.hid (pdq_any ltN swo_ltN less_u32 n h 0 n k (Nat.sub_zero _) (Nat.zero_le _) (Nat.le_refl _) hn (by omega) (Or.inl rfl))
 have HN := Lib.hid hnd
 clear h hk hnd
 go_enter Tryz.func50, Tryz.ntmps50
 go_wp2_with fail
 refine H1.out.mono ?_
 rintro e w1 ⟨rfl, hw1⟩
 rw [hw1]
 clear hw1 H1
 go_wp2_with fail
 refine H2.out.mono ?_
 rintro e w2 ⟨rfl, d', h1, h2, h3⟩
 have H3 : Hid (Sep B w0 w2 (thS g n c d' :: ts) ∧ SortOf d d') := Lib.hid ⟨h1, SortOf.of (by rw [← HN.out]; exact h2) (by rw [← HN.out]; exact h3)⟩
 clear h1 h2 h3 H2
 go_wp2_with fail
 go_end0
 exact ⟨rfl, d', H3.out⟩
theorem ins_nil (w : World) : Calls Tryz.prog 77 #[.slice none 0 0, .int .i64 0, .int .i64 0] w fun e w' => e = .returned (.tuple #[]) ∧ w' = w := by
 go_enter Tryz.func77, Tryz.ntmps77
 go_wp2_with fail
 go_loopw [6] (fun s wr => s = .int .i64 1 ∧ wr = w) (fun s _ => 0)
 case atStart => exact ⟨by first | rfl | go_num, rfl⟩
 case round =>
  obtain ⟨rfl, rfl⟩ := hrel
  go_wp2_with fail
  go_end0
  exact ⟨rfl, rfl⟩
theorem pdq_nil (w : World) (k : Nat) : Calls Tryz.prog 65 #[.slice none 0 0, .int .i64 0, .int .i64 0, .int .i64 (k : Nat)] w fun e w' => e = .returned (.tuple #[]) ∧ w' = w := by
 have H1 := Lib.hid (ins_nil w)
 go_enter Tryz.func65, Tryz.ntmps65
 go_wp2_with fail
 go_loopw [1, 2, 3, 8, 9] (fun s1 s2 s3 s8 s9 wr => s1 = .int .i64 0 ∧ s2 = .int .i64 0 ∧ s3 = .int .i64 (k : Nat) ∧ s8 = .bool true ∧ s9 = .bool true ∧ wr = w) (fun _ _ _ _ _ _ => 0)
 case atStart => exact ⟨rfl, rfl, rfl, rfl, rfl, rfl⟩
 case round =>
  obtain ⟨rfl, rfl, rfl, rfl, rfl, hwr⟩ := hrel
  rw [hwr]
  clear hwr
  go_wp2_with fail
  refine H1.out.mono ?_
  rintro e w2 ⟨rfl, hw2⟩
  rw [hw2]
  clear hw2 H1
  go_wp2_with fail
  first | go_end0 | (refine bodyPost_ret (results_none rfl _ _ _) rfl ?_)
  exact ⟨rfl, rfl⟩
theorem sort_nil (w : World) : Calls Tryz.prog 50 #[.slice none 0 0] w fun e w' => e = .returned (.tuple #[]) ∧ w' = w := by
 have H1 := Lib.hid (len_any 0 w (by omega))
 have H2 := Lib.hid (pdq_nil w (Go.Sort.bitsLen 0))
 obtain ⟨k, hk⟩ : ∃ k, k = Go.Sort.bitsLen 0 := ⟨_, rfl⟩
 rw [← hk] at H1 H2
 clear hk
 go_enter Tryz.func50, Tryz.ntmps50
 go_wp2_with fail
 refine H1.out.mono ?_
 rintro e w1 ⟨rfl, hw1⟩
 rw [hw1]
 clear hw1 H1
 go_wp2_with fail
 refine H2.out.mono ?_
 rintro e w2 ⟨rfl, hw2⟩
 rw [hw2]
 clear hw2 H2
 go_wp2_with fail
 go_end0
 exact ⟨rfl, rfl⟩
end Go.Proofs.YtmcdollkmlcpbaaGreatDoor
