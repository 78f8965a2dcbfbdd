/- Layer 14, the document: Due. -/
import Derived.Test.YtgadedpcekiljaaTm4
set_option linter.unusedSimpArgs false
set_option linter.unusedVariables false
namespace Go.Proofs.Ytgadedpcekiljaa
open Go.RowKit
set_option maxRecDepth 100000

/-- a timer that is asked -/
def dueR (tk now : Nat) (y : Nat × Nat × Nat) : Nat × Nat × Nat := if y.2.2 ≤ now then (y.1, y.2.1 + 1, (now + tk * 2 ^ (min (y.2.1 + 1) 4)) % 18446744073709551616) else y
def outR (now : Nat) (L : List (Nat × Nat × Nat)) : List Nat := (L.filter fun y => decide (y.2.2 ≤ now)).map Prod.fst
def midR (tk now : Nat) (L : List (Nat × Nat × Nat)) (k : Nat) : List (Nat × Nat × Nat) := (L.take k).map (dueR tk now) ++ L.drop k
theorem midR_len (tk now : Nat) (L : List (Nat × Nat × Nat)) (k : Nat) : (midR tk now L k).length = L.length := by
  unfold midR
  rw [List.length_append, List.length_map, List.length_take, List.length_drop]
  omega
theorem midR_get {tk now : Nat} {L : List (Nat × Nat × Nat)} {k : Nat} {y : Nat × Nat × Nat} (h : L[k]? = some y) : (midR tk now L k)[k]? = some y := by
  have hk := (List.getElem?_eq_some_iff.1 h).1
  unfold midR
  rw [List.getElem?_append_right (by rw [List.length_map, List.length_take]; omega), List.length_map, List.length_take, List.getElem?_drop, show min k L.length = k by omega, Nat.sub_self, Nat.add_zero]
  exact h
theorem midR_set {tk now : Nat} {L : List (Nat × Nat × Nat)} {k : Nat} {y : Nat × Nat × Nat} (h : L[k]? = some y) : (midR tk now L k).set k (dueR tk now y) = midR tk now L (k + 1) := by
  obtain ⟨hk, he⟩ := List.getElem?_eq_some_iff.1 h
  unfold midR
  have hl : ((L.take k).map (dueR tk now)).length = k := by rw [List.length_map, List.length_take]; omega
  rw [List.set_append, if_neg (by omega), hl, Nat.sub_self, List.take_add_one, h, List.drop_eq_getElem_cons hk, List.set_cons_zero, List.map_append, List.append_assoc]
  rfl
theorem set_same {α : Type} {L : List α} {k : Nat} {y : α} (h : L[k]? = some y) : L.set k y = L := by
  obtain ⟨hk, he⟩ := List.getElem?_eq_some_iff.1 h
  rw [← he]; exact List.set_getElem_self hk
theorem outR_snoc {now : Nat} {L : List (Nat × Nat × Nat)} {k : Nat} {y : Nat × Nat × Nat} (h : L[k]? = some y) : outR now (L.take (k + 1)) = outR now (L.take k) ++ (if y.2.2 ≤ now then [y.1] else []) := by
  unfold outR
  rw [List.take_add_one, h, List.filter_append, List.map_append]
  congr 1
  by_cases e : y.2.2 ≤ now
  · simp [e]
  · simp [e]
theorem outR_len (now : Nat) (L : List (Nat × Nat × Nat)) : (outR now L).length ≤ L.length := by
  unfold outR
  rw [List.length_map]
  exact List.length_filter_le _ _

set_option maxHeartbeats 8000000 in
theorem rtdue_any {B : Nat} {w0 w : World} {ts : List Kt} {q tk : Nat} {L : List (Nat × Nat × Nat)} (h : Rt B w0 w q tk L ts) (now : Nat) (hnow : now < 18446744073709551616) (htk : tk ≤ 1000) (hL : L.length ≤ 1000000) (ht : ∀ y ∈ L, y.2.1 ≤ 1000000) :
    Calls Try.prog 20 #[.pointer (some ⟨q, 0, none⟩), .int .u64 (now : Nat)] w fun e w' => ∃ v : Value, e = .returned v ∧ Rt B w0 w' q tk (L.map (dueR tk now)) (thR 24 encU 1 v (outR now L) :: ts) := by
  obtain ⟨A, n, c, hn, hs⟩ := h
  obtain ⟨D, hD⟩ : ∃ r, r = L.map (dueR tk now) := ⟨_, rfl⟩
  obtain ⟨O, hO⟩ : ∃ r, r = outR now L := ⟨_, rfl⟩
  rw [← hD, ← hO]
  have S1 := hs.cons (t := thR 24 encU 1 (.slice none 0 0) ([] : List Nat)) (Below.refl _ _) (OwnR.nil _ _ _ _ _) (fun k e => by cases e)
  have H0 : Hid (Sep B w0 w (thR 24 encU 1 (.slice none 0 0) (outR now (L.take 0)) :: thB q 52 #[.int .u64 (tk : Nat), .slice A n c] :: thR 57 encT 3 (.slice A n c) (midR tk now L 0) :: ts)) := Lib.hid S1
  have HX := Lib.hid (And.intro hn (And.intro hD (And.intro hO ht)))
  have hnl : n ≤ 1000000 := by omega
  clear hs hn hD hO ht S1 hL
  go_enter Try.func20, Try.ntmps20
  go_wp2_with fail
  go_loopg [5, 6] n (fun gh s5 s wr => ∃ (k : Nat) (v : Value), v = s5 ∧ s = .int .i64 k ∧ k + gh = n ∧ Hid (Sep B w0 wr (thR 24 encU 1 v (outR now (L.take k)) :: thB q 52 #[.int .u64 (tk : Nat), .slice A n c] :: thR 57 encT 3 (.slice A n c) (midR tk now L k) :: ts)))
  case atStart => exact ⟨0, _, rfl, rfl, Nat.zero_add _, H0⟩
  case round =>
    obtain ⟨k, v, rfl, rfl, hkg, HR⟩ := hrel
    clear H0
    have C : cellsSay wr q 0 [.int .u64 (tk : Nat), .slice A n c] := cells_say (HR.out.blk 1) _ 0 rfl
    simp only [cellsSay, Nat.reduceAdd, and_true] at C
    by_cases hk : k < n
    · have hkl : (k : Int) < (n : Int) := by omega
      have hk0 : (0 : Int) ≤ (k : Int) := by omega
      obtain ⟨y, hy⟩ : ∃ y, L[k]? = some y := ⟨_, List.getElem?_eq_getElem (by have := HX.out.1; omega)⟩
      have hyt := HX.out.2.2.2 y (List.mem_of_getElem? hy)
      obtain ⟨g, rfl, hnl2, hc⟩ := row_at Try.eltT (HR.out.at_ 2 rfl) (midR_get hy)
      have hms := midR_set (tk := tk) (now := now) hy
      have hos := outR_snoc (now := now) hy
      have hmg := midR_get (tk := tk) (now := now) hy
      obtain ⟨ys, yt, ya⟩ := y
      have hyt : yt ≤ 1000000 := hyt
      have c0 := hc 0 _ rfl
      have c1 := hc 1 _ rfl
      have c2 := hc 2 _ rfl
      simp only [Nat.add_zero] at c0
      have hlo : (outR now (L.take k)).length ≤ 1000000 := by
        have h1 := outR_len now (L.take k)
        rw [List.length_take] at h1
        omega
      obtain ⟨ol, hol⟩ : ∃ z, z = outR now (L.take k) := ⟨_, rfl⟩
      rw [← hol] at HR hos hlo
      obtain ⟨M, hM⟩ : ∃ z, z = midR tk now L k := ⟨_, rfl⟩
      rw [← hM] at HR hms hmg
      have hMl : n = M.length := by rw [hM, midR_len]; exact HX.out.1
      by_cases hdu : ya ≤ now
      · have hq : decide ((ya : Int) ≤ (now : Int)) = true := decide_eq_true (by omega)
        have hq2 : (ya : Int) ≤ (now : Int) := by omega
        obtain ⟨t1, ht1⟩ : ∃ t, t = yt + 1 := ⟨_, rfl⟩
        have hv1 : (yt : Int) + 1 = (t1 : Int) := by omega
        obtain ⟨W1, hW1⟩ : ∃ W, W = wr.setCell ⟨g, k * 3 + 1, none⟩ (.int .i64 ((t1 : Nat) : Int)) := ⟨_, rfl⟩
        have S1 : Sep B w0 W1 (thR 24 encU 1 v ol :: thB q 52 #[.int .u64 (tk : Nat), .slice (some ⟨g, 0, none⟩) n c] :: thR 57 encT 3 (.slice (some ⟨g, 0, none⟩) n c) (M.set k (ys, t1, ya)) :: ts) := by
          rw [hW1]
          exact HR.out.turnR Try.eltT 2 rfl hMl k 1 (ys, yt, ya) (ys, t1, ya) _ hmg (by decide) rfl
        have f1 := row_froz (HR.out.at_ 2 rfl : OwnR wr 0 57 encT 3 (.slice (some ⟨g, 0, none⟩) n c) M) (k * 3 + 1)
        have hsk : (M.set k (ys, t1, ya))[k]? = some (ys, t1, ya) := by rw [List.getElem?_set_self (List.getElem?_eq_some_iff.1 hmg).1]
        obtain ⟨g', hA', -, hc'⟩ := row_at Try.eltT (S1.at_ 2 rfl) hsk
        injection hA' with hA'
        injection hA' with hA' _
        subst hA'
        have d0 := hc' 0 _ rfl
        have d1 := hc' 1 _ rfl
        have d2 := hc' 2 _ rfl
        simp only [Nat.add_zero] at d0
        have C1 : cellsSay W1 q 0 [.int .u64 (tk : Nat), .slice (some ⟨g, 0, none⟩) n c] := cells_say (S1.blk 1) _ 0 rfl
        simp only [cellsSay, Nat.reduceAdd, and_true] at C1
        have f2 := row_froz (S1.at_ 2 rfl : OwnR W1 0 57 encT 3 (.slice (some ⟨g, 0, none⟩) n c) (M.set k (ys, t1, ya))) (k * 3 + 2)
        obtain ⟨mn, hmn⟩ : ∃ z, z = min t1 4 := ⟨_, rfl⟩
        have hvm : min (t1 : Int) 4 = (mn : Int) := by omega
        have hmn4 : mn ≤ 4 := by omega
        obtain ⟨T, hT⟩ : ∃ z, z = (now + tk * 2 ^ mn) % 18446744073709551616 := ⟨_, rfl⟩
        have hdr : dueR tk now (ys, yt, ya) = (ys, t1, T) := by
          unfold dueR
          rw [if_pos hdu, hT, hmn, ht1]
        have hset2 : (M.set k (ys, t1, ya)).set k (ys, t1, T) = midR tk now L (k + 1) := by rw [List.set_set, ← hdr]; exact hms
        rw [if_pos hdu] at hos
        have HS := Lib.hid (And.intro S1 (And.intro hsk (And.intro hset2 (And.intro hos (And.intro (show n = (M.set k (ys, t1, ya)).length by rw [List.length_set]; exact hMl) hT)))))
        clear S1 hsk hset2 hos hMl hms hmg hM hol hT hdr hmn ht1 hc hc' hnl2 hy HR hdu
        go_upto_region 7 with fail
        try rw [← hW1]
        clear hW1 C c0 c1 c2 f1 hv1
        go_wp2_with fail
        go_loopg [7, 8] mn (fun gh s7 s8 wy => ∃ j P : Nat, s8 = .int .i64 j ∧ s7 = .int .u64 (P : Nat) ∧ j + gh = mn ∧ Hid (P = tk * 2 ^ j) ∧ wy = W1)
        case atStart => exact ⟨0, tk, rfl, rfl, Nat.zero_add _, Lib.hid (by rw [Nat.pow_zero, Nat.mul_one]), rfl⟩
        case round =>
          obtain ⟨j, P, rfl, rfl, hjg, HP, hwy⟩ := hrel
          rw [hwy]
          clear hwy
          have hP16 : P ≤ 16000 := by
            rw [HP.out]
            have h1 : 2 ^ j ≤ 2 ^ 4 := Nat.pow_le_pow_right (by omega) (by omega)
            calc tk * 2 ^ j ≤ 1000 * 2 ^ 4 := Nat.mul_le_mul htk h1
              _ = 16000 := by decide
          by_cases hj : j < mn
          · have hq3 : decide ((j : Int) < (mn : Int)) = true := decide_eq_true (by omega)
            have hq4 : (j : Int) < (mn : Int) := by omega
            obtain ⟨P2, hP2⟩ : ∃ z, z = 2 * P := ⟨_, rfl⟩
            have hv2 : IntKind.u64.wrap (2 * (P : Int)) = (P2 : Int) := by rw [IntKind.wrap_u64]; omega
            have HP2 : Hid (P2 = tk * 2 ^ (j + 1)) := Lib.hid (by rw [hP2, HP.out, Nat.pow_succ, Nat.mul_comm 2, Nat.mul_assoc])
            clear hP2 hj
            go_wp2_with fail
            go_roundg (mn - (j + 1))
            case measure => omega
            case rel => exact ⟨j + 1, P2, by go_num, rfl, by omega, HP2, rfl⟩
          · have hq3 : decide ((j : Int) < (mn : Int)) = false := decide_eq_false (by omega)
            have hq4 : ¬ (j : Int) < (mn : Int) := by omega
            have hjm : j = mn := by omega
            have hv3 : IntKind.u64.wrap ((now : Int) + (P : Int)) = (T : Int) := by
              rw [IntKind.wrap_u64, HS.out.2.2.2.2.2, ← hjm, ← HP.out]
              omega
            obtain ⟨W2, hW2⟩ : ∃ W, W = W1.setCell ⟨g, k * 3 + 2, none⟩ (.int .u64 ((T : Nat) : Int)) := ⟨_, rfl⟩
            have S2 : Sep B w0 W2 (thR 24 encU 1 v ol :: thB q 52 #[.int .u64 (tk : Nat), .slice (some ⟨g, 0, none⟩) n c] :: thR 57 encT 3 (.slice (some ⟨g, 0, none⟩) n c) (midR tk now L (k + 1)) :: ts) := by
              rw [hW2, ← HS.out.2.2.1]
              exact HS.out.1.turnR Try.eltT 2 rfl HS.out.2.2.2.2.1 k 2 (ys, t1, ya) (ys, t1, T) _ HS.out.2.1 (by decide) rfl
            have hgt : (midR tk now L (k + 1))[k]? = some (ys, t1, T) := by
              rw [← HS.out.2.2.1]
              rw [List.getElem?_set_self (by have := (List.getElem?_eq_some_iff.1 HS.out.2.1).1; exact this)]
            obtain ⟨g3, hA3, -, hc3⟩ := row_at Try.eltT (S2.at_ 2 rfl) hgt
            injection hA3 with hA3
            injection hA3 with hA3 _
            subst hA3
            have e0 := hc3 0 _ rfl
            simp only [Nat.add_zero] at e0
            have C2 : cellsSay W2 q 0 [.int .u64 (tk : Nat), .slice (some ⟨g, 0, none⟩) n c] := cells_say (S2.blk 1) _ 0 rfl
            simp only [cellsSay, Nat.reduceAdd, and_true] at C2
            have H2 := Lib.hid S2
            clear hgt hc3 S2 hjm hj
            go_upto_region 13 with fail
            try rw [← hW2]
            clear hW2 C1 d0 d1 d2 f2
            go_upto_region 4 with (at_builtin; go_must (refine sep_app1 Try.eltU rfl (.tmp 68) (.tmp 77) rfl 0 v ol rfl (H2.out.go (below_alloc W2 _)) rfl W2.heap.size 1 ys 24 #[.int .u32 ((ys : Nat) : Int)] rfl (Blk.new W2 _ _) rfl (by unfold maxLen; omega) (by omega) ?_); intro g5 c5 w5 h5)
            have H5 : Hid (Sep B w0 w5 (thR 24 encU 1 (.slice (some ⟨g5, 0, none⟩) (ol.length + 1) c5) (outR now (L.take (k + 1))) :: thB q 52 #[.int .u64 (tk : Nat), .slice (some ⟨g, 0, none⟩) n c] :: thR 57 encT 3 (.slice (some ⟨g, 0, none⟩) n c) (midR tk now L (k + 1)) :: ts)) := Lib.hid (by rw [HS.out.2.2.2.1]; exact h5)
            clear h5 C2 e0
            go_wp2_with fail
            go_roundg (n - (k + 1))
            case measure => omega
            case rel => exact ⟨k + 1, _, rfl, by go_num, by omega, H5⟩
      · have hq : decide ((ya : Int) ≤ (now : Int)) = false := decide_eq_false (by omega)
        have hq2 : ¬ (ya : Int) ≤ (now : Int) := by omega
        have HF : Hid (M = midR tk now L (k + 1) ∧ ol = outR now (L.take (k + 1))) := Lib.hid (by
          have h1 : dueR tk now (ys, yt, ya) = (ys, yt, ya) := by unfold dueR; rw [if_neg hdu]
          rw [h1, set_same hmg] at hms
          rw [if_neg hdu, List.append_nil] at hos
          exact ⟨hms, hos.symm⟩)
        clear hms hos hmg hM hol hMl hc hnl2 hy hdu
        go_wp2_with fail
        go_roundg (n - (k + 1))
        case measure => omega
        case rel => exact ⟨k + 1, v, rfl, by go_num, by omega, Lib.hid (by rw [← HF.out.1, ← HF.out.2]; exact HR.out)⟩
    · have hkl : ¬ (k : Int) < (n : Int) := by omega
      have HF : Hid (Sep B w0 wr (thB q 52 #[.int .u64 (tk : Nat), .slice A n c] :: thR 57 encT 3 (.slice A n c) D :: thR 24 encU 1 v O :: ts)) := Lib.hid (by
        have h1 := HR.out
        have h2 : L.take k = L := List.take_of_length_le (by have := HX.out.1; omega)
        unfold midR at h1
        rw [h2, List.drop_eq_nil_of_le (by have := HX.out.1; omega), List.append_nil, ← HX.out.2.1, ← HX.out.2.2.1] at h1
        exact srt_perm h1 ((List.Perm.swap _ _ _).trans ((List.Perm.swap _ _ _).cons _)))
      clear hk
      go_wp2_with fail
      go_ret
      exact ⟨v, rfl, A, n, c, by rw [HX.out.2.1, List.length_map]; exact HX.out.1, HF.out⟩

end Go.Proofs.Ytgadedpcekiljaa
