/- Layer 13: walk of WinBounds. -/
import Derived.Test.YtlchnpmiaemobaaWin20
set_option linter.unusedSimpArgs false
set_option linter.unusedVariables false
namespace Go.Proofs.Ytlchnpmiaemobaa
open Go.RowKit
set_option maxRecDepth 100000

theorem filt_eq {l : List PC} (hok : okP l) (f : PC → Bool) : ((l.filter f).length = l.length ↔ sumP (l.filter f) = sumP l) := by
  constructor
  · intro h
    rw [(List.filter_sublist).eq_of_length h]
  · intro h
    have h1 := sumP_parts f l
    have h2 := sumP_nonneg _ (hok.filter fun p => !f p)
    have h3 : (l.filter fun p => !f p).length = 0 := by omega
    have h4 : (l.filter fun p => !f p) = [] := List.eq_nil_of_length_eq_zero h3
    rw [List.filter_eq_self.2]
    intro p hp
    have := List.filter_eq_nil_iff.1 h4 p hp
    simpa using this

set_option maxHeartbeats 8000000 in
theorem winBounds_walk (bits : Nat) (hbits : bits ≤ 65535) (V : Option Addr) (c : Nat) (L : List OC) (w : World) (hV : Rw w encO 9 V L) (hL : L.length ≤ maxLen) (hok : OkO L) :
    Calls Try.prog 6 #[.int .u16 bits, .slice V L.length c] w fun e w' => e = .returned (.bool true) ∧ Below w.heap.size w w' := by
  have HKn := Lib.hid (fun W => known_any W)
  unfold maxLen at hL
  by_cases hlen : 100 < L.length
  · have hd : decide ((100 : Int) < L.length) = true := decide_eq_true (by omega)
    clear hV hok
    go_enter Try.func6, Try.ntmps6
    go_wp2_with fail
    refine (HKn.out _).mono ?_
    rintro e w1 ⟨rfl, b1⟩
    have HB := Lib.hid b1
    clear b1
    go_wp2_with fail
    go_ret
    exact ⟨rfl, HB.out⟩
  · have hl1 : L.length ≤ 100 := by omega
    have hd : decide ((100 : Int) < L.length) = false := decide_eq_false (by omega)
    clear hL hlen
    have HV := Lib.hid hV
    have HO := Lib.hid hok
    clear hV hok
    go_enter Try.func6, Try.ntmps6
    go_wp2_with fail
    refine (HKn.out _).mono ?_
    rintro e w1 ⟨rfl, b1⟩
    have HQ1 := Lib.hid ((Qs.zero w).go b1)
    have z1 := b1.size
    clear b1
    go_wp2_with fail
    refine (w_new (1 + (bits : Int)) (by omega) (by omega) HQ1.out (fun k hk => ⟨Nat.le_trans z1 hk, trivial⟩)).mono ?_
    rintro e w2 ⟨rfl, k2⟩
    have H2 := Lib.hid k2
    clear k2
    obtain ⟨g, hg⟩ : ∃ g, g = w1.heap.size := ⟨_, rfl⟩
    rw [← hg] at H2
    simp only [← hg]
    clear hg HQ1 z1
    go_wp2_with fail
    go_loopw [6, 7] (fun s6 s7 wr => ∃ (k : Nat) (m : Int), k ≤ L.length ∧ s7 = .int .i64 k ∧ s6 = .int .i64 m ∧ 0 ≤ m ∧ m ≤ 65536 ∧ Hid (sumP (runL (1 + (bits : Int)) L k) ≤ bits + m) ∧ Hid (One wr [qW w w.heap.size (Nat.le_refl _)] (oW g (1 + (bits : Int)) (runL (1 + (bits : Int)) L k))))
      (fun _ s7 _ => L.length - (intOf s7).toNat)
    case atStart => exact ⟨0, 0, Nat.zero_le _, rfl, rfl, by omega, by omega, Lib.hid (by rw [runL_zero]; simp [sumP]), H2⟩
    case round =>
      obtain ⟨k, m, hk, rfl, rfl, hm0, hm1, HM, HT⟩ := hrel
      clear H2
      by_cases hlt : k < L.length
      · obtain ⟨p, o, rfl, hcw⟩ := op_at HV.out k L[k] (List.getElem?_eq_getElem hlt)
        have hrs := runL_succ (1 + (bits : Int)) L k L[k] (List.getElem?_eq_getElem hlt)
        have hro := runL_ok (b := 1 + (bits : Int)) (by omega) L k (by omega)
        have hro2 := runL_ok (b := 1 + (bits : Int)) (by omega) L (k + 1) (by omega)
        have hkd := HO.out L[k] (List.getElem_mem hlt)
        obtain ⟨x, hx⟩ : ∃ x, x = L[k] := ⟨_, rfl⟩
        rw [← hx] at hcw hrs hkd
        clear hx
        obtain ⟨l1, hl1e⟩ : ∃ l1, l1 = runL (1 + (bits : Int)) L k := ⟨_, rfl⟩
        rw [← hl1e] at HT hro hrs HM
        have HRo := Lib.hid hro
        obtain ⟨l2, hl2e⟩ : ∃ l2, l2 = runL (1 + (bits : Int)) L (k + 1) := ⟨_, rfl⟩
        rw [← hl2e] at hrs hro2
        have HL2 := Lib.hid hl2e
        obtain ⟨S1, hS1⟩ : ∃ S1, S1 = sumP l1 := ⟨_, rfl⟩
        obtain ⟨S2, hS2⟩ : ∃ S2, S2 = sumP l2 := ⟨_, rfl⟩
        have hI1 := fun (W : World) (h : One W [qW w w.heap.size (Nat.le_refl _)] (oW g (1 + (bits : Int)) l1)) => w_in h
        have hI2 := fun (W : World) (h : One W [qW w w.heap.size (Nat.le_refl _)] (oW g (1 + (bits : Int)) l2)) => w_in h
        rw [← hS1] at hI1
        rw [← hS2] at hI2
        have HI1 := Lib.hid hI1
        have HI2 := Lib.hid hI2
        have hb1 : 0 ≤ S1 ∧ S1 ≤ 1114111 := by rw [hS1]; exact ⟨(sumP_nonneg _ hro.1.ok).1, hro.1.sum⟩
        have hb2 : 0 ≤ S2 ∧ S2 ≤ 1114111 := by rw [hS2]; exact ⟨(sumP_nonneg _ hro2.1.ok).1, hro2.1.sum⟩
        have hb3 := hb1.1
        have hb4 := hb1.2
        have hb5 := hb2.1
        have hb6 := hb2.2
        have HS1 := Lib.hid hS1
        have HS2 := Lib.hid hS2
        obtain ⟨kd, se', f0, f1, f2, t0, t1, t2, pn⟩ := x
        dsimp only at hcw hkd
        have HCw := Lib.hid hcw
        have hkm : ∀ m : Nat, ((kd : Int) % 6 == (m : Int)) = decide (kd % 6 = m) := fun m => by
          by_cases h : kd % 6 = m
          · rw [decide_eq_true h]; exact beq_iff_eq.2 (by omega)
          · rw [decide_eq_false h]; exact beq_eq_false_iff_ne.2 (by omega)
        have q3 := hkm 3
        have q4 := hkm 4
        have q5 := hkm 5
        have hl1l : l1.length ≤ 100 := by omega
        have hl2l : l2.length ≤ 100 := by omega
        clear hcw hro hro2 hl1e hl2e hkm hI1 hI2 hS1 hS2 hb1 hb2
        have ndr : ∀ (W : World) (a : Addr), W.drew.cell? a = W.cell? a := fun _ _ => rfl
        by_cases h345 : kd % 6 = 3 ∨ kd % 6 = 4 ∨ kd % 6 = 5
        · have hex : ∃ f : PC → Bool, l2 = l1.filter f ∧ (∀ W, One W [qW w w.heap.size (Nat.le_refl _)] (oW g (1 + (bits : Int)) l1) → (kd % 6 = 5 → Calls Try.prog 15 #[.pointer (some ⟨g, 0, none⟩), .int .u32 se'] W fun e w' => e = .returned (.int .i64 ((l1.length : Int) - l2.length)) ∧ One w' [qW w w.heap.size (Nat.le_refl _)] (oW g (1 + (bits : Int)) l2)) ∧
              (kd % 6 ≠ 5 → Calls Try.prog 14 #[.pointer (some ⟨g, 0, none⟩), .int .u32 se', .agg #[.int .u32 t0, .int .u32 t1, .int .u32 t2]] W fun e w' => e = .returned (.int .i64 ((l1.length : Int) - l2.length)) ∧ One w' [qW w w.heap.size (Nat.le_refl _)] (oW g (1 + (bits : Int)) l2))) := by
            by_cases h5 : kd % 6 = 5
            · have he : l2 = l1.filter fun p => !goneD se' p := by rw [hrs]; unfold stepL; rw [if_neg (by dsimp only; omega), if_pos h5]
              exact ⟨_, he, fun W h => ⟨fun _ => by rw [he]; exact w_drop h HRo.out.1 (by omega) se', fun h => absurd h5 h⟩⟩
            · have he : l2 = l1.filter fun p => !goneA se' t0 t2 p := by rw [hrs]; unfold stepL; rw [if_pos (by dsimp only; omega)]
              exact ⟨_, he, fun W h => ⟨fun h => absurd h h5, fun _ => by rw [he]; exact w_ack h HRo.out.1 (by omega) se' t0 t1 t2⟩⟩
          obtain ⟨f, hf, hC⟩ := hex
          have hlf := List.length_filter_le f l1
          have hiff := filt_eq HRo.out.1.ok f
          have hsf := sumP_filter_le HRo.out.1.ok f
          rw [← hf] at hlf hiff hsf
          rw [← HS1.out, ← HS2.out] at hiff hsf
          obtain ⟨kk, hkk⟩ : ∃ kk : Int, kk = (l1.length : Int) - l2.length := ⟨_, rfl⟩
          rw [← hkk] at hC
          have hk0 : 0 ≤ kk := by omega
          have hk1 : kk ≤ 100 := by omega
          have e1 : ((l2.length : Int) != (l1.length : Int) - kk) = false := by simp; omega
          have e2 : decide (S1 < S2) = false := decide_eq_false (by omega)
          obtain ⟨r, hr⟩ : ∃ r, r = decide (kk = 0) := ⟨_, rfl⟩
          have e3 : (kk == 0) = r := by
            rw [hr]
            by_cases h : kk = 0
            · rw [decide_eq_true h]; exact beq_iff_eq.2 h
            · rw [decide_eq_false h]; exact beq_eq_false_iff_ne.2 h
          have e4 : (S2 == S1) = r := by
            rw [hr]
            by_cases h : kk = 0
            · rw [decide_eq_true h]; exact beq_iff_eq.2 (hiff.1 (by omega))
            · rw [decide_eq_false h]; exact beq_eq_false_iff_ne.2 (fun e => h (by have := hiff.2 e; omega))
          have e5 : decide ((bits : Int) + m < S2) = false := decide_eq_false (by have := HM.out; rw [← HS1.out] at this; omega)
          have HM2 := Lib.hid (show sumP (runL (1 + (bits : Int)) L (k + 1)) ≤ bits + m by rw [← HL2.out, ← HS2.out]; have := HM.out; rw [← HS1.out] at this; omega)
          have HC := Lib.hid hC
          clear hC hf hlf hiff hsf hkk hr hrs
          have C := HCw.out wr (HT.out.qs.top 0)
          by_cases h5 : kd % 6 = 5
          · have HA := Lib.hid (fun W h => (HC.out W h).1 h5)
            rw [decide_eq_false (by omega)] at q3 q4
            rw [decide_eq_true h5] at q5
            clear h345 h5 HC
            go_wp2_with fail
            refine (HI1.out _ HT.out).mono ?_
            rintro e w4 ⟨rfl, rfl⟩
            go_wp2_with fail
            refine (w_pieces HT.out (by omega)).mono ?_
            rintro e w5 ⟨A5, c5, rfl, -, b5⟩
            have H5 := Lib.hid (HT.out.go b5)
            clear b5 C
            have C := HCw.out w5 (H5.out.qs.top 0)
            go_wp2_with fail
            refine (HA.out _ H5.out).mono ?_
            rintro e w6 ⟨rfl, k6⟩
            have H6 := Lib.hid k6
            clear k6 C
            go_wp2_with fail
            refine (w_pieces H6.out (by omega)).mono ?_
            rintro e w7 ⟨A7, c7, rfl, -, b7⟩
            have H7 := Lib.hid (H6.out.go b7)
            clear b7
            go_wp2_with fail
            refine (HI2.out _ H7.out).mono ?_
            rintro e w8 ⟨rfl, rfl⟩
            go_wp2_with fail
            refine (HI2.out _ H7.out).mono ?_
            rintro e w8 ⟨rfl, rfl⟩
            go_wp2_with fail
            refine (HI2.out _ H7.out).mono ?_
            rintro e w9 ⟨rfl, rfl⟩
            have h8 := H7.out
            rw [HL2.out] at h8
            have H8 := Lib.hid h8
            clear h8
            go_wp2_with fail
            go_roundw
            case measure => simp [intOf]; omega
            case rel => exact ⟨k + 1, m, by omega, by go_num, rfl, hm0, hm1, HM2, H8⟩
          · have HA := Lib.hid (fun W h => (HC.out W h).2 h5)
            rw [decide_eq_false h5] at q5
            by_cases h3 : kd % 6 = 3
            · rw [decide_eq_true h3] at q3
              clear h345 h5 h3 q4 HC
              go_wp2_with fail
              refine (HI1.out _ HT.out).mono ?_
              rintro e w4 ⟨rfl, rfl⟩
              go_wp2_with fail
              refine (w_pieces HT.out (by omega)).mono ?_
              rintro e w5 ⟨A5, c5, rfl, -, b5⟩
              have H5 := Lib.hid (HT.out.go b5)
              clear b5 C
              have C := HCw.out w5 (H5.out.qs.top 0)
              have d0 : (w5 : World).cell? ⟨p, o + k * 9 + 1, none⟩ = some (.int .u32 se') ∧ (w5 : World).cell? ⟨p, o + k * 9 + 5, none⟩ = some (.int .u32 t0) ∧ (w5 : World).cell? ⟨p, o + k * 9 + 6, none⟩ = some (.int .u32 t1) ∧ (w5 : World).cell? ⟨p, o + k * 9 + 7, none⟩ = some (.int .u32 t2) := ⟨C.2.1, C.2.2.2.2.2.1, C.2.2.2.2.2.2.1, C.2.2.2.2.2.2.2.1⟩
              go_wp2_with fail
              go_region_held3 (fun w' => w'.cell? ⟨p, o + k * 9 + 1, none⟩ = some (.int .u32 se') ∧ w'.cell? ⟨p, o + k * 9 + 5, none⟩ = some (.int .u32 t0) ∧ w'.cell? ⟨p, o + k * 9 + 6, none⟩ = some (.int .u32 t1) ∧ w'.cell? ⟨p, o + k * 9 + 7, none⟩ = some (.int .u32 t2)) (first | with_reducible exact d0 | with_reducible exact d5 | (simp only [ndr]; with_reducible exact d0))
                ((go_at_call 14; refine (HA.out _ H5.out.drew).mono ?_; rintro e w6 ⟨rfl, k6⟩; have H6 := Lib.hid k6; have c6 := HCw.out w6 (k6.qs.top 0); have d5 : (w6 : World).cell? ⟨p, o + k * 9 + 1, none⟩ = some (.int .u32 se') ∧ (w6 : World).cell? ⟨p, o + k * 9 + 5, none⟩ = some (.int .u32 t0) ∧ (w6 : World).cell? ⟨p, o + k * 9 + 6, none⟩ = some (.int .u32 t1) ∧ (w6 : World).cell? ⟨p, o + k * 9 + 7, none⟩ = some (.int .u32 t2) := ⟨c6.2.1, c6.2.2.2.2.2.1, c6.2.2.2.2.2.2.1, c6.2.2.2.2.2.2.2.1⟩; clear k6 c6))
              all_goals
                clear C
                go_wp2_with fail
                refine (w_pieces H6.out (by omega)).mono ?_
                rintro e w7 ⟨A7, c7, rfl, -, b7⟩
                have H7 := Lib.hid (H6.out.go b7)
                clear b7
                go_wp2_with fail
                refine (HI2.out _ H7.out).mono ?_
                rintro e w8 ⟨rfl, rfl⟩
                go_wp2_with fail
                refine (HI2.out _ H7.out).mono ?_
                rintro e w8 ⟨rfl, rfl⟩
                go_wp2_with fail
                refine (HI2.out _ H7.out).mono ?_
                rintro e w9 ⟨rfl, rfl⟩
                have h8 := H7.out
                rw [HL2.out] at h8
                have H8 := Lib.hid h8
                clear h8
                go_wp2_with fail
                go_roundw
                case measure => simp [intOf]; omega
                case rel => exact ⟨k + 1, m, by omega, by go_num, rfl, hm0, hm1, HM2, H8⟩
            · rw [decide_eq_false h3] at q3
              rw [decide_eq_true (by omega)] at q4
              clear h345 h5 h3 HC
              go_wp2_with fail
              refine (HI1.out _ HT.out).mono ?_
              rintro e w4 ⟨rfl, rfl⟩
              go_wp2_with fail
              refine (w_pieces HT.out (by omega)).mono ?_
              rintro e w5 ⟨A5, c5, rfl, -, b5⟩
              have H5 := Lib.hid (HT.out.go b5)
              clear b5 C
              have C := HCw.out w5 (H5.out.qs.top 0)
              have d0 : (w5 : World).cell? ⟨p, o + k * 9 + 1, none⟩ = some (.int .u32 se') ∧ (w5 : World).cell? ⟨p, o + k * 9 + 5, none⟩ = some (.int .u32 t0) ∧ (w5 : World).cell? ⟨p, o + k * 9 + 6, none⟩ = some (.int .u32 t1) ∧ (w5 : World).cell? ⟨p, o + k * 9 + 7, none⟩ = some (.int .u32 t2) := ⟨C.2.1, C.2.2.2.2.2.1, C.2.2.2.2.2.2.1, C.2.2.2.2.2.2.2.1⟩
              go_wp2_with fail
              go_region_held3 (fun w' => w'.cell? ⟨p, o + k * 9 + 1, none⟩ = some (.int .u32 se') ∧ w'.cell? ⟨p, o + k * 9 + 5, none⟩ = some (.int .u32 t0) ∧ w'.cell? ⟨p, o + k * 9 + 6, none⟩ = some (.int .u32 t1) ∧ w'.cell? ⟨p, o + k * 9 + 7, none⟩ = some (.int .u32 t2)) (first | with_reducible exact d0 | with_reducible exact d5 | (simp only [ndr]; with_reducible exact d0))
                ((go_at_call 14; refine (HA.out _ H5.out.drew).mono ?_; rintro e w6 ⟨rfl, k6⟩; have H6 := Lib.hid k6; have c6 := HCw.out w6 (k6.qs.top 0); have d5 : (w6 : World).cell? ⟨p, o + k * 9 + 1, none⟩ = some (.int .u32 se') ∧ (w6 : World).cell? ⟨p, o + k * 9 + 5, none⟩ = some (.int .u32 t0) ∧ (w6 : World).cell? ⟨p, o + k * 9 + 6, none⟩ = some (.int .u32 t1) ∧ (w6 : World).cell? ⟨p, o + k * 9 + 7, none⟩ = some (.int .u32 t2) := ⟨c6.2.1, c6.2.2.2.2.2.1, c6.2.2.2.2.2.2.1, c6.2.2.2.2.2.2.2.1⟩; clear k6 c6))
              all_goals
                clear C
                go_wp2_with fail
                refine (w_pieces H6.out (by omega)).mono ?_
                rintro e w7 ⟨A7, c7, rfl, -, b7⟩
                have H7 := Lib.hid (H6.out.go b7)
                clear b7
                go_wp2_with fail
                refine (HI2.out _ H7.out).mono ?_
                rintro e w8 ⟨rfl, rfl⟩
                go_wp2_with fail
                refine (HI2.out _ H7.out).mono ?_
                rintro e w8 ⟨rfl, rfl⟩
                go_wp2_with fail
                refine (HI2.out _ H7.out).mono ?_
                rintro e w9 ⟨rfl, rfl⟩
                have h8 := H7.out
                rw [HL2.out] at h8
                have H8 := Lib.hid h8
                clear h8
                go_wp2_with fail
                go_roundw
                case measure => simp [intOf]; omega
                case rel => exact ⟨k + 1, m, by omega, by go_num, rfl, hm0, hm1, HM2, H8⟩
        · rw [decide_eq_false (by omega)] at q3 q4 q5
          have hst : l2 = addL (1 + (bits : Int)) l1 ⟨se', f0, f1, f2, t0, t1, t2, pn⟩ := by rw [hrs]; unfold stepL; rw [if_neg (by dsimp only; omega), if_neg (by dsimp only; omega)]
          have hA := fun (W : World) (h : One W [qW w w.heap.size (Nat.le_refl _)] (oW g (1 + (bits : Int)) l1)) => w_add h HRo.out.1 (by omega) (by omega) ⟨se', f0, f1, f2, t0, t1, t2, pn⟩
          rw [← hst] at hA
          obtain ⟨r, hr⟩ : ∃ r, r = addB (1 + (bits : Int)) l1 ⟨se', f0, f1, f2, t0, t1, t2, pn⟩ := ⟨_, rfl⟩
          rw [← hr] at hA
          simp only [encP] at hA
          have HA := Lib.hid hA
          unfold addL at hst
          rw [← hr] at hst
          have C := HCw.out wr (HT.out.qs.top 0)
          clear hA hrs h345
          cases r
          · have hs12 : S2 = S1 := by rw [HS2.out, HS1.out, hst]; rfl
            have e5 : decide ((bits : Int) + m < S2) = false := decide_eq_false (by have := HM.out; rw [← HS1.out] at this; omega)
            have HM2 := Lib.hid (show sumP (runL (1 + (bits : Int)) L (k + 1)) ≤ bits + m by rw [← HL2.out, ← HS2.out]; have := HM.out; rw [← HS1.out] at this; omega)
            clear hst hs12 hr
            go_wp2_with fail
            refine (HI1.out _ HT.out).mono ?_
            rintro e w4 ⟨rfl, rfl⟩
            go_wp2_with fail
            refine (w_pieces HT.out (by omega)).mono ?_
            rintro e w5 ⟨A5, c5, rfl, -, b5⟩
            have H5 := Lib.hid (HT.out.go b5)
            clear b5 C
            have C := HCw.out w5 (H5.out.qs.top 0)
            go_wp2_with fail
            refine (HA.out _ H5.out).mono ?_
            rintro e w6 ⟨rfl, k6⟩
            have H6 := Lib.hid k6
            clear k6 C
            go_wp2_with fail
            refine (HI2.out _ H6.out).mono ?_
            rintro e w8 ⟨rfl, rfl⟩
            have h8 := H6.out
            rw [HL2.out] at h8
            have H8 := Lib.hid h8
            clear h8
            go_wp2_with fail
            go_roundw
            case measure => simp [intOf]; omega
            case rel => exact ⟨k + 1, m, by omega, by go_num, rfl, hm0, hm1, HM2, H8⟩
          · have hab := of_decide_eq_true hr.symm
            dsimp only at hab
            have hs12 : S2 = S1 + pn := by rw [HS2.out, HS1.out, hst, if_pos rfl, sumP_append]; simp [sumP]
            rw [← HS1.out] at hab
            have hp1 : 1 ≤ pn := hab.1
            have hp2 : pn ≤ 65536 := hab.2.1
            have e1 : (S2 != S1 + pn) = false := by rw [hs12]; simp
            by_cases hmx : m < pn
            · have e5 : decide ((bits : Int) + pn < S2) = false := decide_eq_false (by omega)
              have HM2 := Lib.hid (show sumP (runL (1 + (bits : Int)) L (k + 1)) ≤ bits + pn by rw [← HL2.out, ← HS2.out]; omega)
              clear hst hs12 hr hab
              go_wp2_with fail
              refine (HI1.out _ HT.out).mono ?_
              rintro e w4 ⟨rfl, rfl⟩
              go_wp2_with fail
              refine (w_pieces HT.out (by omega)).mono ?_
              rintro e w5 ⟨A5, c5, rfl, -, b5⟩
              have H5 := Lib.hid (HT.out.go b5)
              clear b5 C
              have C := HCw.out w5 (H5.out.qs.top 0)
              go_wp2_with fail
              refine (HA.out _ H5.out).mono ?_
              rintro e w6 ⟨rfl, k6⟩
              have H6 := Lib.hid k6
              clear C
              have C := HCw.out w6 (k6.qs.top 0)
              clear k6
              go_wp2_with fail
              have hwr : IntKind.i64.wrap (S1 + pn) = S1 + pn := by rw [IntKind.wrap_i64]; omega
              have d0 := C.2.2.2.2.2.2.2.2
              clear C
              go_region_held3 (fun w' => w'.cell? ⟨p, o + k * 9 + 8, none⟩ = some (.int .i64 pn)) (first | with_reducible exact d0 | (simp only [ndr]; with_reducible exact d0))
                ((go_at_call 22; refine (HI2.out _ H6.out.drew).mono ?_; rintro e w8 ⟨rfl, rfl⟩))
              all_goals
                have H9 := Lib.hid H6.out.drew
                go_wp2_with fail
                refine (HI2.out _ H9.out).mono ?_
                rintro e w8 ⟨rfl, rfl⟩
                have h8 := H9.out
                rw [HL2.out] at h8
                have H8 := Lib.hid h8
                clear h8
                go_wp2_with fail
                go_roundw
                case measure => simp [intOf]; omega
                case rel => exact ⟨k + 1, pn, by omega, by go_num, rfl, by omega, by omega, HM2, H8⟩
            · have e5 : decide ((bits : Int) + m < S2) = false := decide_eq_false (by omega)
              have HM2 := Lib.hid (show sumP (runL (1 + (bits : Int)) L (k + 1)) ≤ bits + m by rw [← HL2.out, ← HS2.out]; omega)
              clear hst hs12 hr hab
              go_wp2_with fail
              refine (HI1.out _ HT.out).mono ?_
              rintro e w4 ⟨rfl, rfl⟩
              go_wp2_with fail
              refine (w_pieces HT.out (by omega)).mono ?_
              rintro e w5 ⟨A5, c5, rfl, -, b5⟩
              have H5 := Lib.hid (HT.out.go b5)
              clear b5 C
              have C := HCw.out w5 (H5.out.qs.top 0)
              go_wp2_with fail
              refine (HA.out _ H5.out).mono ?_
              rintro e w6 ⟨rfl, k6⟩
              have H6 := Lib.hid k6
              clear C
              have C := HCw.out w6 (k6.qs.top 0)
              clear k6
              go_wp2_with fail
              have hwr : IntKind.i64.wrap (S1 + pn) = S1 + pn := by rw [IntKind.wrap_i64]; omega
              have d0 := C.2.2.2.2.2.2.2.2
              clear C
              go_region_held3 (fun w' => w'.cell? ⟨p, o + k * 9 + 8, none⟩ = some (.int .i64 pn)) (first | with_reducible exact d0 | (simp only [ndr]; with_reducible exact d0))
                ((go_at_call 22; refine (HI2.out _ H6.out.drew).mono ?_; rintro e w8 ⟨rfl, rfl⟩))
              all_goals
                have H9 := Lib.hid H6.out.drew
                go_wp2_with fail
                refine (HI2.out _ H9.out).mono ?_
                rintro e w8 ⟨rfl, rfl⟩
                have h8 := H9.out
                rw [HL2.out] at h8
                have H8 := Lib.hid h8
                clear h8
                go_wp2_with fail
                go_roundw
                case measure => simp [intOf]; omega
                case rel => exact ⟨k + 1, m, by omega, by go_num, rfl, by omega, by omega, HM2, H8⟩
      · obtain rfl : k = L.length := by omega
        go_wp2_with fail
        go_ret
        exact ⟨rfl, HT.out.qs.top 0⟩

end Go.Proofs.Ytlchnpmiaemobaa
