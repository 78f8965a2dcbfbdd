/- Layer 23: Count, of the program and of the document. -/
import Derived.Test.YtfbnobhecfgahaaSp6
import Derived.Test.YtfbnobhecfgahaaMathS3
set_option linter.unusedSimpArgs false
set_option linter.unusedVariables false
namespace Go.Proofs.Ytfbnobhecfgahaa
open Go.RowKit
set_option maxRecDepth 100000

theorem InL.bd {l : List Sp} (h : InL l) : ∀ x ∈ l, -9223372036854775808 ≤ x.1 ∧ x.2 ≤ 9223372036854775807 := fun x hx => ⟨(h x hx).1.1, (h x hx).2.2⟩
theorem cnt_wraps {xf xt : Int} {n m : Nat} (hf : In xf) (ht : In xt) (hle : xf ≤ xt) (hm : m = n + (xt - xf + 1).toNat) (k : Nat) (hk : k = n % 18446744073709551616) :
    IntKind.u64.wrap ((k : Int) + IntKind.u64.wrap (IntKind.u64.wrap (IntKind.u64.wrap xt - IntKind.u64.wrap xf) + 1)) = ((m % 18446744073709551616 : Nat) : Int) := by
  unfold In at hf ht
  simp only [IntKind.wrap_u64]
  subst hk hm
  omega

set_option maxHeartbeats 2000000 in
theorem rcount_any (V : Option Addr) (c : Nat) (l : List Sp) (w : World) (hV : Ps w V l) (hi : InL l) (hl : l.length ≤ 1000000) :
    Calls Try.prog 18 #[.slice V l.length c] w fun e w' => e = .returned (.tuple #[.int .u64 ((cntR l).1 : Nat), .bool (cntR l).2]) ∧ Below w.heap.size w w' := by
  have hS := rsound_any V c l w hV hi hl
  obtain ⟨N, hN⟩ : ∃ N, N = (cntR l).1 := ⟨_, rfl⟩
  obtain ⟨B, hB⟩ : ∃ B, B = (cntR l).2 := ⟨_, rfl⟩
  rw [← hN, ← hB]
  by_cases hs : Snd l
  · rw [show sndB l = true from decide_eq_true hs] at hS
    have HS := Lib.hid hS
    have HV := Lib.hid hV
    have HI := Lib.hid hi
    have HSd := Lib.hid hs
    have HN := Lib.hid (And.intro hN hB)
    clear hS hV hi hs hN hB
    go_enter Try.func18, Try.ntmps18
    go_wp2_with fail
    refine HS.out.mono ?_
    rintro e w1 ⟨rfl, b1⟩
    have HB1 := Lib.hid b1
    clear b1 HS
    go_wp2_with fail
    go_loopw [5, 6] (fun s5 s6 wr => ∃ k n : Nat, k ≤ l.length ∧ s6 = .int .i64 k ∧ s5 = .int .u64 n ∧ Hid (n = cntN (l.take k) % 18446744073709551616) ∧ Hid (Below w.heap.size w wr))
      (fun _ s6 _ => l.length - (intOf s6).toNat)
    case atStart => exact ⟨0, 0, Nat.zero_le _, rfl, rfl, Lib.hid (by simp [cntN]), HB1⟩
    case round =>
      obtain ⟨k, n, hk, rfl, rfl, HNn, HB⟩ := hrel
      have hsz := HB.out.size
      by_cases hlt : k < l.length
      · obtain ⟨p, o, rfl, hc⟩ := ps_at HV.out k l[k] (List.getElem?_eq_getElem hlt)
        have hst := cntN_snoc (List.getElem?_eq_getElem hlt)
        have hin := HI.out l[k] (List.getElem_mem hlt)
        have hle := HSd.out.1 l[k] (List.getElem_mem hlt)
        obtain ⟨x, hx⟩ : ∃ x, x = l[k] := ⟨_, rfl⟩
        rw [← hx] at hc hst hin hle
        obtain ⟨xf, xt⟩ := x
        dsimp only at hc hst hin hle
        have C := hc wr HB.out
        have hw := cnt_wraps hin.1 hin.2 hle hst n HNn.out
        obtain ⟨m, hm⟩ : ∃ m, m = cntN (l.take (k + 1)) % 18446744073709551616 := ⟨_, rfl⟩
        rw [← hm] at hw
        have HM := Lib.hid hm
        clear hc hst hin hle hx hm
        obtain ⟨a, ha⟩ : ∃ a, IntKind.u64.wrap xt = a := ⟨_, rfl⟩
        obtain ⟨b, hb⟩ : ∃ b, IntKind.u64.wrap xf = b := ⟨_, rfl⟩
        rw [ha, hb] at hw
        obtain ⟨d, hd⟩ : ∃ d, IntKind.u64.wrap (a - b) = d := ⟨_, rfl⟩
        rw [hd] at hw
        obtain ⟨f, hf⟩ : ∃ f, IntKind.u64.wrap (d + 1) = f := ⟨_, rfl⟩
        rw [hf] at hw
        have hkl : (k : Int) < l.length := by omega
        go_wp2_with fail
        go_quiet (fail)
        go_wp2_with fail
        go_roundw
        case measure => simp [intOf]; omega
        case rel => exact ⟨k + 1, m, by omega, by go_num, rfl, HM, Lib.hid (below_drewN HB.out _)⟩
      · obtain rfl : k = l.length := by omega
        have hNb := HNn.out
        rw [List.take_length, ← cntR_mod HSd.out HI.out.bd, ← HN.out.1] at hNb
        have Hb : Hid (B = (decide (0 < n) || decide (l.length = 0))) := Lib.hid (by
          rw [HN.out.2, hNb, HN.out.1]
          unfold cntR
          by_cases hn : l = allS
          · rw [if_neg (fun e => e.2 hn), hn]; rfl
          · rw [if_pos ⟨HSd.out, hn⟩]
            by_cases h0 : l = []
            · subst h0; rfl
            · have := (cnt_lt HSd.out HI.out.bd hn).2 h0
              simp [this])
        have HNN := Lib.hid hNb
        clear hNb
        rcases Nat.eq_zero_or_pos n with rfl | h0
        · by_cases hl0 : l.length = 0
          · have hl1 : (((l.length : Nat) : Int) == 0) = true := beq_iff_eq.2 (by omega)
            have Hb2 := Lib.hid (show B = true by rw [Hb.out]; simp [hl0])
            clear hl0
            go_wp2_with fail
            go_ret2
            exact ⟨by rw [Hb2.out, ← HNN.out]; first | rfl | simp, HB.out⟩
          · have hl1 : (((l.length : Nat) : Int) == 0) = false := beq_eq_false_iff_ne.2 (by omega)
            have hl2 : l ≠ [] := fun e => hl0 (by rw [e]; rfl)
            have Hb2 := Lib.hid (show B = false by rw [Hb.out]; simp [hl0])
            clear hl0
            go_wp2_with fail
            go_ret2
            exact ⟨by rw [Hb2.out, ← HNN.out]; first | rfl | simp, HB.out⟩
        · have hd : decide (0 < n) = true := decide_eq_true h0
          have Hb2 := Lib.hid (show B = true by rw [Hb.out]; simp [h0])
          clear h0
          go_wp2_with fail
          go_ret2
          exact ⟨by rw [Hb2.out, ← HNN.out]; first | rfl | simp, HB.out⟩
  · rw [show sndB l = false from decide_eq_false hs] at hS
    have HS := Lib.hid hS
    have e1 : N = 0 := by rw [hN]; unfold cntR; rw [if_neg (fun e => hs e.1)]
    have e2 : B = false := by rw [hB]; unfold cntR; rw [if_neg (fun e => hs e.1)]
    subst e1 e2
    clear hS hV hi hs hN hB
    go_enter Try.func18, Try.ntmps18
    go_wp2_with fail
    refine HS.out.mono ?_
    rintro e w1 ⟨rfl, b1⟩
    go_wp2_with fail
    go_ret2
    exact ⟨rfl, b1⟩

set_option maxHeartbeats 2000000 in
theorem count_any (V : Option Addr) (c : Nat) (l : List Sp) (w : World) (hV : Ps w V l) (hi : InL l) (hl : l.length ≤ 1000000) :
    Calls Try.prog 17 #[.slice V l.length c] w fun e w' => e = .returned (.tuple #[.int .u64 ((cntR l).1 : Nat), .bool (cntR l).2]) ∧ Below w.heap.size w w' := by
  have HV := Lib.hid hV
  have HI := Lib.hid hi
  clear hV hi
  obtain ⟨N, hN⟩ : ∃ N, N = (cntR l).1 := ⟨_, rfl⟩
  obtain ⟨B, hB⟩ : ∃ B, B = (cntR l).2 := ⟨_, rfl⟩
  rw [← hN, ← hB]
  have HN := Lib.hid (And.intro hN hB)
  clear hN hB
  go_enter Try.func17, Try.ntmps17
  go_upto_region 1 with fail
  go_cut [4] (fun s4 wx => s4 = .bool (decide (l = allS)) ∧ Hid (Below w.heap.size w wx))
  case first =>
    by_cases h1 : l.length = 1
    · obtain ⟨x, rfl⟩ := List.length_eq_one_iff.1 h1
      obtain ⟨p, o, rfl, hc⟩ := ps_at HV.out 0 x rfl
      obtain ⟨y, hy⟩ : ∃ y : Sp, y = (-9223372036854775808, 9223372036854775807) := ⟨_, rfl⟩
      have hE := fun w => eqS_run x y w
      obtain ⟨r, hr⟩ : ∃ r, r = decide ([x] = allS) := ⟨_, rfl⟩
      have hyr : decide (x = y) = r := by rw [hr, hy]; unfold allS; simp
      rw [hyr] at hE
      subst hy
      have Hr := Lib.hid hr
      have C := hc w (Below.refl _ _)
      obtain ⟨xf, xt⟩ := x
      simp only [encS] at hE
      simp only [Nat.zero_mul, Nat.add_zero] at C
      clear hc hr h1 hyr
      go_wp2_with fail
      go_meet
      exact ⟨by rw [← Hr.out], Lib.hid (Below.refl _ _)⟩
    · have h2 : (((l.length : Nat) : Int) == 1) = false := beq_eq_false_iff_ne.2 (by omega)
      have Hr := Lib.hid (show decide (l = allS) = false from decide_eq_false fun e => h1 (by rw [e]; rfl))
      clear h1
      go_wp2_with fail
      go_meet
      exact ⟨by rw [Hr.out], Lib.hid (Below.refl _ _)⟩
  case rest =>
    obtain ⟨rfl, HBc⟩ := hcut
    by_cases ha : l = allS
    · rw [decide_eq_true ha]
      have e1 : N = 0 := by rw [HN.out.1]; unfold cntR; rw [if_neg (fun e => e.2 ha)]
      have e2 : B = false := by rw [HN.out.2]; unfold cntR; rw [if_neg (fun e => e.2 ha)]
      subst e1 e2
      clear ha HN
      go_wp2_with fail
      go_ret2
      exact ⟨rfl, HBc.out⟩
    · rw [decide_eq_false ha]
      have hS := sound_any V c l _ (HV.out.below HBc.out (Nat.le_refl _)) HI.out hl
      by_cases hs : Snd l
      · rw [show sndB l = true from decide_eq_true hs] at hS
        have HS := Lib.hid hS
        have HSd := Lib.hid (And.intro hs ha)
        clear hS hs ha
        go_wp2_with fail
        refine HS.out.mono ?_
        rintro e w1 ⟨rfl, b1⟩
        have HB1 := Lib.hid (HBc.out.trans (b1.mono HBc.out.size))
        clear b1 HS
        go_wp2_with fail
        go_loopw [5, 26] (fun s5 s6 wr => ∃ k n : Nat, k ≤ l.length ∧ s6 = .int .i64 k ∧ s5 = .int .u64 n ∧ Hid (n = cntN (l.take k) % 18446744073709551616) ∧ Hid (Below w.heap.size w wr))
          (fun _ s6 _ => l.length - (intOf s6).toNat)
        case atStart => exact ⟨0, 0, Nat.zero_le _, rfl, rfl, Lib.hid (by simp [cntN]), HB1⟩
        case round =>
          obtain ⟨k, n, hk, rfl, rfl, HNn, HB⟩ := hrel
          have hsz := HB.out.size
          by_cases hlt : k < l.length
          · obtain ⟨p, o, rfl, hc⟩ := ps_at HV.out k l[k] (List.getElem?_eq_getElem hlt)
            have hst := cntN_snoc (List.getElem?_eq_getElem hlt)
            have hin := HI.out l[k] (List.getElem_mem hlt)
            have hle := HSd.out.1.1 l[k] (List.getElem_mem hlt)
            obtain ⟨x, hx⟩ : ∃ x, x = l[k] := ⟨_, rfl⟩
            rw [← hx] at hc hst hin hle
            obtain ⟨xf, xt⟩ := x
            dsimp only at hc hst hin hle
            have C := hc wr HB.out
            have hw := cnt_wraps hin.1 hin.2 hle hst n HNn.out
            obtain ⟨m, hm⟩ : ∃ m, m = cntN (l.take (k + 1)) % 18446744073709551616 := ⟨_, rfl⟩
            rw [← hm] at hw
            have HM := Lib.hid hm
            clear hc hst hin hle hx hm
            obtain ⟨a, ha⟩ : ∃ a, IntKind.u64.wrap xt = a := ⟨_, rfl⟩
            obtain ⟨b, hb⟩ : ∃ b, IntKind.u64.wrap xf = b := ⟨_, rfl⟩
            rw [ha, hb] at hw
            obtain ⟨d, hd⟩ : ∃ d, IntKind.u64.wrap (a - b) = d := ⟨_, rfl⟩
            rw [hd] at hw
            obtain ⟨f, hf⟩ : ∃ f, IntKind.u64.wrap (d + 1) = f := ⟨_, rfl⟩
            rw [hf] at hw
            have hkl : (k : Int) < l.length := by omega
            go_wp2_with fail
            go_roundw
            case measure => simp [intOf]; omega
            case rel => exact ⟨k + 1, m, by omega, by go_num, rfl, HM, Lib.hid (HB.out.alloc hsz _)⟩
          · obtain rfl : k = l.length := by omega
            have hNb := HNn.out
            rw [List.take_length, ← cntR_mod HSd.out.1 HI.out.bd, ← HN.out.1] at hNb
            have Hb2 : Hid (B = true) := Lib.hid (by rw [HN.out.2]; unfold cntR; rw [if_pos HSd.out])
            have HNN := Lib.hid hNb
            clear hNb
            go_wp2_with fail
            go_ret2
            exact ⟨by rw [Hb2.out, ← HNN.out]; first | rfl | simp, HB.out⟩
      · rw [show sndB l = false from decide_eq_false hs] at hS
        have HS := Lib.hid hS
        have e1 : N = 0 := by rw [HN.out.1]; unfold cntR; rw [if_neg (fun e => hs e.1)]
        have e2 : B = false := by rw [HN.out.2]; unfold cntR; rw [if_neg (fun e => hs e.1)]
        subst e1 e2
        clear hS hs HN ha
        go_wp2_with fail
        refine HS.out.mono ?_
        rintro e w1 ⟨rfl, b1⟩
        have HB1 := Lib.hid (HBc.out.trans (b1.mono HBc.out.size))
        clear b1
        go_wp2_with fail
        go_ret2
        exact ⟨rfl, HB1.out⟩

end Go.Proofs.Ytfbnobhecfgahaa
