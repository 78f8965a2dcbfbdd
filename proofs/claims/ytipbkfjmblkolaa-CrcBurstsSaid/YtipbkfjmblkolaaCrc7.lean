/- CrcBursts. -/
import Derived.Test.YtipbkfjmblkolaaCrc6
import Derived.Laws.ShiftsVar
namespace Go.Proofs.Ytipbkfjmblkolaa
open Go.RowKit

theorem xor_mul_pow (a b k : Nat) : (a ^^^ b) * 2 ^ k = a * 2 ^ k ^^^ b * 2 ^ k := by
  rw [← Nat.shiftLeft_eq, ← Nat.shiftLeft_eq, ← Nat.shiftLeft_eq, Nat.shiftLeft_xor_distrib]
theorem crcNum_set (L : List UInt8) : ∀ (i r : Nat) (x : UInt8), i < L.length → r < 8 → L[i]? = some x → crcNum (L.set i (UInt8.ofNat (x.toNat ^^^ 2 ^ r))) = crcNum L ^^^ 2 ^ (8 * i + r) := by
  induction L with
  | nil => intro i r x h _ _; simp at h
  | cons b L ih =>
    intro i r x h hr hx
    have hp : 2 ^ r < 256 := Nat.pow_lt_pow_right (n := 8) (by decide) hr
    cases i with
    | zero =>
      simp at hx
      subst hx
      have hb := b.toNat_lt
      have hlt : b.toNat ^^^ 2 ^ r < 256 := Nat.xor_lt_two_pow (n := 8) hb hp
      show (UInt8.ofNat (b.toNat ^^^ 2 ^ r)).toNat + 256 * crcNum L = (b.toNat + 256 * crcNum L) ^^^ 2 ^ (8 * 0 + r)
      rw [UInt8.toNat_ofNat_of_lt' hlt, add_xor _ _ hlt, add_xor _ _ hb, Nat.mul_zero, Nat.zero_add, Nat.xor_assoc, Nat.xor_assoc, Nat.xor_comm (2 ^ r)]
    | succ i =>
      simp at hx
      have h2 := ih i r x (by simpa using h) hr hx
      show b.toNat + 256 * crcNum (L.set i (UInt8.ofNat (x.toNat ^^^ 2 ^ r))) = (b.toNat + 256 * crcNum L) ^^^ 2 ^ (8 * (i + 1) + r)
      rw [h2, add_xor _ _ b.toNat_lt, add_xor _ _ b.toNat_lt, Nat.xor_assoc]
      congr 1
      rw [xor_mul_pow]
      congr 1
      rw [← Nat.pow_add]
      congr 1
      omega

/-- bits k of run, at from on -/
theorem run_next (run k from_ : Nat) : (run % 2 ^ (k + 1)) * 2 ^ from_ = (run % 2 ^ k) * 2 ^ from_ ^^^ (run / 2 ^ k % 2) * 2 ^ (from_ + k) := by
  have e : run % 2 ^ (k + 1) = run % 2 ^ k ^^^ (run / 2 ^ k % 2) * 2 ^ k := by
    apply Nat.eq_of_testBit_eq
    intro i
    rw [Nat.testBit_xor, Nat.testBit_mod_two_pow, Nat.testBit_mod_two_pow, Nat.testBit_mul_two_pow]
    have h2 : (run / 2 ^ k % 2).testBit (i - k) = (decide (i - k < 1) && run.testBit (i - k + k)) := by
      rw [show (2 : Nat) = 2 ^ 1 from rfl, Nat.testBit_mod_two_pow, ← Nat.pow_mul, Nat.one_mul, Nat.testBit_div_two_pow]
    rw [h2]
    rcases Nat.lt_trichotomy i k with h | h | h
    · simp [show i < k + 1 by omega, h, show ¬ k ≤ i by omega]
    · subst h; simp
    · simp [show ¬ i < k + 1 by omega, show ¬ i < k by omega, show ¬ i - k < 1 by omega, show ¬ i ≤ k by omega]
  rw [e, xor_mul_pow, Nat.mul_assoc, ← Nat.pow_add, Nat.add_comm k]

theorem crcF_told (l L : List UInt8) (e f : Nat) (hL : L.length = l.length) (hn : crcNum L = crcNum l ^^^ e * 2 ^ f) (he : e < 4294967296) (hf : f ≤ 8 * l.length) : crcL l = crcL L ↔ e = 0 := by
  rw [crcL_inj, crcF_num, crcF_num, hL, hn, ← Nat.xor_assoc, csteps_xor _ (4294967295 ^^^ crcNum l) (e * 2 ^ f)]
  have h2 : 8 * l.length = f + (8 * l.length - f) := by omega
  have h1 : csteps (8 * l.length) (e * 2 ^ f) = csteps (8 * l.length - f) e := by
    rw [h2, csteps_add, csteps_even]; congr 1; omega
  rw [h1]
  constructor
  · intro h
    have h3 : csteps (8 * l.length - f) e = 0 := by
      have := congrArg (csteps (8 * l.length) (4294967295 ^^^ crcNum l) ^^^ ·) h
      simpa [← Nat.xor_assoc] using this.symm
    exact csteps_zero _ he h3
  · rintro rfl
    rw [csteps_nought, Nat.xor_zero]

theorem run_mod_lt (run k : Nat) (hk : k ≤ 32) : run % 2 ^ k < 4294967296 :=
  Nat.lt_of_lt_of_le (Nat.mod_lt _ (Nat.two_pow_pos _)) (Nat.pow_le_pow_right (n := 2) (by decide) hk)

theorem flip_val (x : UInt8) (r : Nat) (hr : r < 8) : Value.int .u8 (bits .xor .u8 (x.toNat : Int) (2 ^ r % 256)) = bv (UInt8.ofNat (x.toNat ^^^ 2 ^ r)) := by
  have hp : 2 ^ r < 256 := Nat.pow_lt_pow_right (n := 8) (by decide) hr
  have hlt : x.toNat ^^^ 2 ^ r < 256 := Nat.xor_lt_two_pow (n := 8) x.toNat_lt hp
  have e : ((2 : Int) ^ r % 256) = ((2 ^ r : Nat) : Int) := by
    rw [show ((2 : Int) ^ r) = ((2 ^ r : Nat) : Int) by rw [Int.natCast_pow]; rfl]
    clear hlt
    generalize 2 ^ r = t at *
    omega
  rw [e, xor_u8 _ _ x.toNat_lt hp]
  unfold bv
  rw [UInt8.toNat_ofNat_of_lt' hlt]
theorem ls_oneN {w : World} {g : Nat} {B : Option Addr} {l : List UInt8} (n : Nat) (hn : n = l.length) (c : Nat) (T : TypeId) (hB : Bsf w g B l) (hg : g < w.heap.size) : Ls (w.alloc (.cells #[.slice B n c] T)) g (some ⟨w.heap.size, 0, none⟩) [l] := by
  subst hn; exact ls_one c T hB hg

set_option maxRecDepth 100000 in
set_option maxHeartbeats 4000000 in
theorem crcBursts_small (A : Option Addr) (c : Nat) (l : List UInt8) (at_ : Int) (run : Nat) (w : World) (hl : Bs w A l) (h0 : l.length ≤ 2000) (h1 : 0 < l.length) (hat : -9223372036854775808 ≤ at_ ∧ at_ ≤ 9223372036854775807) (hr : run < 4294967296) :
    Calls Try.prog 5 #[.slice A l.length c, .int .i64 at_, .int .u32 run] w fun e w' => e = .returned (.bool true) ∧ Below w.heap.size w w' := by
  have d1 : decide ((2000 : Int) < l.length) = false := by simp; omega
  have d2 : decide (2000 < l.length) = false := by simp; omega
  have d3 : ((l.length : Int) == 0) = false := by rw [beq_eq_false_iff_ne]; omega
  have d4 : (l.length == 0) = false := by rw [beq_eq_false_iff_ne]; omega
  have H1 := Lib.hid h1
  have Hr := Lib.hid hr
  clear hr
  go_enter Try.func5, Try.ntmps5
  go_wp2_with fail
  refine (crcKnown_any _).mono ?_
  rintro e w1 ⟨rfl, hb1⟩
  have l1 := hl.below hb1
  go_upto_region 3 with fail
  go_cut [7] (fun s wx => ∃ f : Nat, s = .int .i64 f ∧ f < 8 * l.length ∧ wx = w1)
  case first =>
    have hz : ¬ (8 * (l.length : Int)) = 0 := by omega
    by_cases hi0 : at_ < 0
    · go_wp2_with fail
      go_meet
      exact ⟨0, rfl, by omega, rfl⟩
    · have h2 := Int.emod_nonneg at_ (show (8 * (l.length : Int)) ≠ 0 by omega)
      have h3 := Int.emod_lt_of_pos at_ (show 0 < (8 * (l.length : Int)) by omega)
      obtain ⟨f, hf⟩ := Int.eq_ofNat_of_zero_le h2
      have HF := Lib.hid hf
      have hf2 : f < 8 * l.length := by omega
      clear hf h2 h3
      go_wp2_with fail
      go_meet
      exact ⟨f, by rw [HF.out], hf2, rfl⟩
  case rest =>
    obtain ⟨f, rfl, hf, rfl⟩ := hcut
    go_wp2_with (at_builtin; go_must (refine appAll _ rfl (.tmp 32) (.tmp 33) rfl wc.heap.size _ [] rfl (OwnB.nil _ _) A c l rfl l1 (by simp; omega) (Nat.le_refl _) ?_); intro A3 c3 w3 hown3 hb3; rw [List.nil_append, List.length_nil, Nat.zero_add] at hown3; rw [List.length_nil, Nat.zero_add])
    obtain ⟨g, cap, hv, hgb, _, _⟩ := hown3.form h1
    injection hv with hv1 _ hv3
    subst hv1
    obtain rfl : c3 = cap := hv3
    have hf16 : f ≤ 16000 := by omega
    have hrB := Hr.out
    go_loopw [9, 10] (fun s9 s10 wr => ∃ (k : Nat) (L : List UInt8) (b : Bool), k ≤ 32 ∧ f + k ≤ 8 * l.length ∧ s9 = .bool b ∧ s10 = .int .i64 k ∧ Hid (b = decide (run % 2 ^ k ≠ 0)) ∧ Hid (L.length = l.length ∧ crcNum L = crcNum l ^^^ run % 2 ^ k * 2 ^ f) ∧
        OwnB wr wc.heap.size (.slice (some ⟨g, 0, none⟩) l.length c3) L ∧ Below wc.heap.size wc wr) (fun _ i _ => 32 - (intOf i).toNat)
    case atStart => exact ⟨0, l, false, by omega, by omega, rfl, rfl, Lib.hid (by simp [Nat.mod_one]), Lib.hid ⟨rfl, by simp [Nat.mod_one]⟩, hown3, hb3⟩
    case round =>
      obtain ⟨k, L, b, hk, hfk, rfl, rfl, HB, HL, hown, hbel⟩ := hrel
      by_cases hgo : k < 32 ∧ f + k < 8 * l.length
      · obtain ⟨hk32, hfk2⟩ := hgo
        obtain ⟨s, hs⟩ : ∃ s, s = run / 2 ^ k := ⟨_, rfl⟩
        obtain ⟨d, hd⟩ : ∃ d, d = s % 2 := ⟨_, rfl⟩
        have e1 : (run : Int) / 2 ^ k = (s : Int) := by rw [hs]; exact nat_shr _ _
        have e2 : (s : Int) % 2 = (d : Int) := by omega
        have e2' : (s : Int).tmod 2 = (d : Int) := by rw [Int.tmod_eq_emod_of_nonneg (by omega)]; omega
        have c1 : decide ((k : Int) < 32) = true := by simp; omega
        have c1' : decide (k < 32) = true := by simp; omega
        have c2 : decide ((f : Int) + (k : Int) < 8 * (l.length : Int)) = true := by simp; omega
        have hnx := run_next run k f
        rw [← hs, ← hd] at hnx
        have hrb : decide (run % 2 ^ (k + 1) ≠ 0) = (decide (run % 2 ^ k ≠ 0) || decide (d = 1)) := by
          have h := Nat.mod_pow_succ (x := run) (b := 2) (k := k)
          rw [← hs, ← hd] at h
          have hp := Nat.two_pow_pos k
          rw [Bool.eq_iff_iff, Bool.or_eq_true, decide_eq_true_eq, decide_eq_true_eq, decide_eq_true_eq, h]
          have hd2 : d < 2 := by omega
          generalize run % 2 ^ k = y at *
          rcases Nat.lt_or_ge 0 d with h5 | h5
          · obtain rfl : d = 1 := by omega
            rw [Nat.mul_one]
            constructor
            · intro _; exact .inr rfl
            · intro _; omega
          · obtain rfl : d = 0 := by omega
            rw [Nat.mul_zero, Nat.add_zero]
            constructor
            · intro h6; exact .inl h6
            · rintro (h6 | h6)
              · exact h6
              · cases h6
        by_cases hd1 : d = 1
        · have t1 : ((d : Int) == 1) = true := by simp; omega
          have t2 : (d == 1) = true := by simp; omega
          obtain ⟨q, hq⟩ : ∃ q, q = (f + k) / 8 := ⟨_, rfl⟩
          obtain ⟨r, hrr⟩ : ∃ r, r = (f + k) % 8 := ⟨_, rfl⟩
          have e3 : ((f : Int) + (k : Int)) / 8 = (q : Int) := by omega
          have e4 : ((f : Int) + (k : Int)) % 8 = (r : Int) := by omega
          have hql : q < L.length := by have := HL.out.1; omega
          have hql2 : q < l.length := by omega
          have hqi : (q : Int) < (l.length : Int) := by omega
          have hr8 : r < 8 := by omega
          have hcel := hown.cell q hql
          obtain ⟨x, hx⟩ : ∃ x, x = L[q] := ⟨_, rfl⟩
          rw [← hx] at hcel
          unfold bv at hcel
          have hfz := hown.frozen q
          have Hhs := Lib.hid hs
          have Hhd := Lib.hid hd
          have Hnx := Lib.hid hnx
          have Hrb := Lib.hid hrb
          have Hq := Lib.hid hq
          have Hrr := Lib.hid hrr
          have Hx := Lib.hid hx
          clear hs hd hnx hrb hq hrr hx hd1
          go_wp2_with fail
          go_roundw
          case rel =>
            refine ⟨k + 1, L.set q (UInt8.ofNat (x.toNat ^^^ 2 ^ r)), true, by omega, by omega, rfl, by go_num, Lib.hid (by rw [Hrb.out]; simp; exact .inr (by simpa using t2)), Lib.hid ⟨by rw [List.length_set]; exact HL.out.1, ?_⟩, ?_, hbel.setCell hgb _⟩
            · have hd1 : d = 1 := by simpa using t2
              rw [crcNum_set L q r x hql hr8 (by rw [Hx.out]; exact List.getElem?_eq_getElem hql), HL.out.2, Hnx.out, hd1, Nat.one_mul, Nat.xor_assoc]
              congr 3
              have := Hq.out; have := Hrr.out; omega
            · rw [flip_val x r hr8]; exact OwnB.set hown q _
          case measure => simp [intOf]; omega
        · have t1 : ((d : Int) == 1) = false := by simp; omega
          have t2 : (d == 1) = false := by simp; omega
          have Hhd : Hid (d = 0) := Lib.hid (by omega)
          have Hnx := Lib.hid hnx
          have Hrb := Lib.hid hrb
          clear hs hd hnx hrb hd1
          go_wp2_with fail
          go_roundw
          case rel =>
            refine ⟨k + 1, L, b, by omega, by omega, rfl, by go_num, Lib.hid ?_, Lib.hid ⟨HL.out.1, ?_⟩, hown, hbel⟩
            · rw [Hrb.out, Hhd.out, ← HB.out]; simp
            · rw [HL.out.2, Hnx.out, Hhd.out]; simp
          case measure => simp [intOf]; omega
      · rcases Nat.lt_or_ge k 32 with hk32 | hk32
        · have c1 : decide ((k : Int) < 32) = true := by simp; omega
          have c1' : decide (k < 32) = true := by simp; omega
          have c2 : decide ((f : Int) + (k : Int) < 8 * (l.length : Int)) = false := by simp; omega
          clear hgo
          go_wp2_with fail
          refine (crcNew_any _).mono ?_
          rintro e w4 ⟨rfl, hF, hb4⟩
          have hL2 := HL.out.1
          have hgr : wc.heap.size ≤ wr.heap.size := hbel.size
          have hgw : w.heap.size ≤ wc.heap.size := hb1.size
          have t4 : Below w.heap.size w w4 := on1 (on1 hb1 hbel) hb4
          have a4 := hl.past t4 (Nat.le_trans hgw hgr)
          have o4 := ((OwnB.bs hown).far (Nat.le_refl wr.heap.size)).below hb4
          have e4 := below_alloc w4 (.cells #[.slice A l.length c] 22)
          have hg4 := hF.lt
          clear hl l1 hown hbel hb1 hb4 hown3 hb3
          go_wp2_with fail
          refine (crcSum_any wr.heap.size _ _ [l] _ (.inl (hF.below e4)) (ls_one c 22 a4 hg4) (by simp) (by simp; omega)).mono ?_
          rintro e w5 ⟨x, HX, rfl, M5, T5⟩
          have o5 := (o4.below e4).tch T5
          have t5 : Below w.heap.size w w5 := T5.below (onA t4) (by have := t4.size; simp; omega) (Nat.le_trans hgw hgr)
          have hg5 := M5.lt
          have e5 := below_alloc w5 (.cells #[.slice (some ⟨g, 0, none⟩) l.length c3] 22)
          clear o4 t4 e4 T5 a4 hF
          go_wp2_with fail
          refine (crcSum_any wr.heap.size _ _ [L] _ (.inr (M5.below e5)) (ls_oneN l.length hL2.symm c3 22 o5 hg5) (by simp) (by simp; omega)).mono ?_
          rintro e w6 ⟨y, HY, rfl, M6, T6⟩
          have t6 : Below w.heap.size w w6 := T6.below (onA t5) (by have := t5.size; simp; omega) (Nat.le_trans hgw hgr)
          have hiff := crcF_told l L (run % 2 ^ k) f hL2 HL.out.2 (run_mod_lt run k hk) (by omega)
          have hx : x = crcL l := by rw [HX.out]; simp
          have hy : y = crcL L := by rw [HY.out]; simp
          rw [← hx, ← hy] at hiff
          have hbo := HB.out
          clear HX HY hx hy t5 e5 T6 M5 M6 o5 hL2
          by_cases hxy : x = y
          · have c3 : ((x : Int) != (y : Int)) = false := by rw [bne_eq_false_iff_eq]; omega
            have c3' : (x != y) = false := by rw [bne_eq_false_iff_eq]; omega
            have c4 : ((x : Int) == (y : Int)) = true := by rw [beq_iff_eq]; omega
            have hb0 : b = false := by rw [hbo]; simp [hiff.1 hxy]
            subst hb0
            clear hiff hxy hbo
            go_wp2_with fail
            go_ret
            exact ⟨rfl, t6⟩
          · have c3 : ((x : Int) != (y : Int)) = true := by rw [bne_iff_ne]; omega
            have c3' : (x != y) = true := by rw [bne_iff_ne]; omega
            have c4 : ((x : Int) == (y : Int)) = false := by rw [beq_eq_false_iff_ne]; omega
            have hb0 : b = true := by rw [hbo]; simp; intro h; exact hxy (hiff.2 h)
            subst hb0
            clear hiff hxy hbo
            go_wp2_with fail
            go_ret
            exact ⟨rfl, t6⟩
        · have c1 : decide ((k : Int) < 32) = false := by simp; omega
          have c1' : decide (k < 32) = false := by simp; omega
          clear hgo
          go_wp2_with fail
          refine (crcNew_any _).mono ?_
          rintro e w4 ⟨rfl, hF, hb4⟩
          have hL2 := HL.out.1
          have hgr : wc.heap.size ≤ wr.heap.size := hbel.size
          have hgw : w.heap.size ≤ wc.heap.size := hb1.size
          have t4 : Below w.heap.size w w4 := on1 (on1 hb1 hbel) hb4
          have a4 := hl.past t4 (Nat.le_trans hgw hgr)
          have o4 := ((OwnB.bs hown).far (Nat.le_refl wr.heap.size)).below hb4
          have e4 := below_alloc w4 (.cells #[.slice A l.length c] 22)
          have hg4 := hF.lt
          clear hl l1 hown hbel hb1 hb4 hown3 hb3
          go_wp2_with fail
          refine (crcSum_any wr.heap.size _ _ [l] _ (.inl (hF.below e4)) (ls_one c 22 a4 hg4) (by simp) (by simp; omega)).mono ?_
          rintro e w5 ⟨x, HX, rfl, M5, T5⟩
          have o5 := (o4.below e4).tch T5
          have t5 : Below w.heap.size w w5 := T5.below (onA t4) (by have := t4.size; simp; omega) (Nat.le_trans hgw hgr)
          have hg5 := M5.lt
          have e5 := below_alloc w5 (.cells #[.slice (some ⟨g, 0, none⟩) l.length c3] 22)
          clear o4 t4 e4 T5 a4 hF
          go_wp2_with fail
          refine (crcSum_any wr.heap.size _ _ [L] _ (.inr (M5.below e5)) (ls_oneN l.length hL2.symm c3 22 o5 hg5) (by simp) (by simp; omega)).mono ?_
          rintro e w6 ⟨y, HY, rfl, M6, T6⟩
          have t6 : Below w.heap.size w w6 := T6.below (onA t5) (by have := t5.size; simp; omega) (Nat.le_trans hgw hgr)
          have hiff := crcF_told l L (run % 2 ^ k) f hL2 HL.out.2 (run_mod_lt run k hk) (by omega)
          have hx : x = crcL l := by rw [HX.out]; simp
          have hy : y = crcL L := by rw [HY.out]; simp
          rw [← hx, ← hy] at hiff
          have hbo := HB.out
          clear HX HY hx hy t5 e5 T6 M5 M6 o5 hL2
          by_cases hxy : x = y
          · have c3 : ((x : Int) != (y : Int)) = false := by rw [bne_eq_false_iff_eq]; omega
            have c3' : (x != y) = false := by rw [bne_eq_false_iff_eq]; omega
            have c4 : ((x : Int) == (y : Int)) = true := by rw [beq_iff_eq]; omega
            have hb0 : b = false := by rw [hbo]; simp [hiff.1 hxy]
            subst hb0
            clear hiff hxy hbo
            go_wp2_with fail
            go_ret
            exact ⟨rfl, t6⟩
          · have c3 : ((x : Int) != (y : Int)) = true := by rw [bne_iff_ne]; omega
            have c3' : (x != y) = true := by rw [bne_iff_ne]; omega
            have c4 : ((x : Int) == (y : Int)) = false := by rw [beq_eq_false_iff_ne]; omega
            have hb0 : b = true := by rw [hbo]; simp; intro h; exact hxy (hiff.2 h)
            subst hb0
            clear hiff hxy hbo
            go_wp2_with fail
            go_ret
            exact ⟨rfl, t6⟩

set_option maxRecDepth 100000 in
theorem crcBursts_walk (A : Option Addr) (c : Nat) (l : List UInt8) (at_ : Int) (run : Nat) (w : World) (hl : Bs w A l) (hat : -9223372036854775808 ≤ at_ ∧ at_ ≤ 9223372036854775807) (hr : run < 4294967296) :
    Calls Try.prog 5 #[.slice A l.length c, .int .i64 at_, .int .u32 run] w fun e w' => e = .returned (.bool true) ∧ Below w.heap.size w w' := by
  rcases Nat.lt_or_ge 2000 l.length with h0 | h0
  · have d1 : decide ((2000 : Int) < l.length) = true := by simp; omega
    have d2 : decide (2000 < l.length) = true := by simp; omega
    clear hr
    go_enter Try.func5, Try.ntmps5
    go_wp2_with (go_at_call 13; refine (crcKnown_any _).mono ?_; rintro e w1 ⟨rfl, hb1⟩)
    go_ret
    exact ⟨rfl, hb1⟩
  rcases Nat.eq_zero_or_pos l.length with h1 | h1
  · have d1 : decide ((2000 : Int) < l.length) = false := by simp; omega
    have d2 : decide (2000 < l.length) = false := by simp; omega
    have d3 : ((l.length : Int) == 0) = true := by rw [beq_iff_eq]; omega
    have d4 : (l.length == 0) = true := by rw [beq_iff_eq]; omega
    clear hr h1
    go_enter Try.func5, Try.ntmps5
    go_wp2_with (go_at_call 13; refine (crcKnown_any _).mono ?_; rintro e w1 ⟨rfl, hb1⟩)
    go_ret
    exact ⟨rfl, hb1⟩
  exact crcBursts_small A c l at_ run w hl h0 h1 hat hr

end Go.Proofs.Ytipbkfjmblkolaa
