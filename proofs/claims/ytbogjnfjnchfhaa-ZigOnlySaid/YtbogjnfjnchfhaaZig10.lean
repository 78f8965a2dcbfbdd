/- The statements ZigBack, ZigOnly: the walks. -/
import Derived.Test.YtbogjnfjnchfhaaZig9
namespace Go.Proofs.Ytbogjnfjnchfhaa
open Go.RowKit

theorem zrowl_at (l : List Int) (k : Nat) (h : k < l.length) : (zrowl l).drop (zrowl (l.take k)).length = zenc (foldZ l[k]) ++ zrowl (l.drop (k + 1)) := by
  have e : zrowl l = zrowl (l.take k) ++ (zenc (foldZ l[k]) ++ zrowl (l.drop (k + 1))) := by
    conv => lhs; rw [← List.take_append_drop k l, List.drop_eq_getElem_cons h]
    rw [zrowl_append, zrowl_cons]
  conv => lhs; rw [e]
  exact List.drop_left

set_option maxRecDepth 100000 in
set_option maxHeartbeats 2000000 in
theorem zigBack_walk (V : Option Addr) (c : Nat) (l : List Int) (w : World) (hV : Vs w V (l.map (Value.int .i64))) (hl : l.length ≤ maxLen)
    (hv : ∀ v ∈ l, -9223372036854775808 ≤ v ∧ v ≤ 9223372036854775807) :
    Calls Try.prog 10 #[.slice V l.length c] w fun e w' => e = .returned (.bool true) ∧ Below w.heap.size w w' := by
  unfold maxLen at hl
  have HV := Lib.hid hv
  clear hv
  by_cases h : 40 < l.length
  · have hI : (40 : Int) < l.length := by omega
    go_enter Try.func10, Try.ntmps10
    go_wp2_with (go_at_call 20; refine (known2_any _).mono ?_; rintro e w1 ⟨rfl, hb1⟩)
    go_ret
    exact ⟨rfl, hb1⟩
  · have hI : ¬ (40 : Int) < l.length := by omega
    go_enter Try.func10, Try.ntmps10
    have kA := keepA
    go_wp2_with fail
    refine Calls.mono (known2_any _) ?_
    rintro e w1 ⟨rfl, hb1⟩
    go_wp2_with fail
    refine Calls.mono (zrow_any V c l _ (hV.below hb1) (by omega) HV.out) ?_
    rintro e w2 ⟨M, A2, c2, HM, hMl, rfl, hO2, hb2⟩
    have t2 := on hb1 hb2
    go_wp2_with fail
    have x2 : ((w2.alloc (.cells #[.slice A2 (pack M).length c2, .int .i64 M.length] 24)).cell? ⟨w2.heap.size, 0, none⟩ = some (.slice A2 (pack M).length c2)) ∧ ((w2.alloc (.cells #[.slice A2 (pack M).length c2, .int .i64 M.length] 24)).cell? ⟨w2.heap.size, 1, none⟩ = some (.int .i64 M.length)) := (Blk.new w2 _ _).duo.1
    have tW := onA (W := w2.alloc (.cells #[.slice A2 (pack M).length c2, .int .i64 M.length] 24)) t2
    have hB2 := hO2.bs.up (W := w2.alloc (.cells #[.slice A2 (pack M).length c2, .int .i64 M.length] 24))
    obtain ⟨W, hW⟩ : ∃ W, W = w2.alloc (.cells #[.slice A2 (pack M).length c2, .int .i64 M.length] 24) := ⟨_, rfl⟩
    rw [← hW] at x2 tW hB2 ⊢
    clear hW
    go_loopw [4, 5] (fun q i wr => ∃ k at_ : Nat, k ≤ l.length ∧ i = .int .i64 k ∧ q = .int .i64 at_ ∧ Hid (at_ = (zrowl (l.take k)).length) ∧ at_ ≤ M.length ∧ Below W.heap.size W wr) (fun _ i _ => l.length - (intOf i).toNat)
    case atStart => exact ⟨0, 0, Nat.zero_le _, rfl, rfl, Lib.hid rfl, Nat.zero_le _, Below.refl _ _⟩
    case round =>
      obtain ⟨k, a, hk, rfl, rfl, Ha, haM, hbel⟩ := hrel
      have xr := box hbel x2
      have tr := on tW hbel
      have hBr := hB2.go hbel
      by_cases hlt : k < l.length
      · obtain ⟨p, o, rfl, hc⟩ := hV k (.int .i64 l[k]) (by rw [List.getElem?_map, List.getElem?_eq_getElem hlt]; rfl)
        have hvk := HV.out l[k] (List.getElem_mem hlt)
        have hz := zenc_pos (foldZ l[k])
        have hget : zres a (zget (M.drop a)) = (l[k], a + (zenc (foldZ l[k])).length, 0) := by
          rw [HM.out, Ha.out, zrowl_at l k hlt, zget_enc _ (foldZ_lt _ hvk)]
          unfold zres
          rw [if_pos rfl, unfold_fold]
        have hnext : a + (zenc (foldZ l[k])).length ≤ M.length ∧ a + (zenc (foldZ l[k])).length = (zrowl (l.take (k + 1))).length := by
          have e1 : (zrowl (l.take (k + 1))).length = a + (zenc (foldZ l[k])).length := by
            rw [List.take_succ_eq_append_getElem hlt, zrowl_snoc, List.length_append, Ha.out]
          refine ⟨?_, e1.symm⟩
          have h2 := congrArg List.length (zrowl_at l k hlt)
          rw [List.length_drop, List.length_append, ← Ha.out, ← HM.out] at h2
          omega
        obtain ⟨Z, hZ⟩ : ∃ Z, Z = (zenc (foldZ l[k])).length := ⟨_, rfl⟩
        rw [← hZ] at hz hget hnext
        have Hget := Lib.hid hget
        have Hnext := Lib.hid hnext.2
        have hn1 := hnext.1
        clear hZ hget hnext
        have hc2 := (tr.cell (cell_lt hc)).trans hc
        go_wp2_with fail
        refine Calls.mono (zget_in A2 c2 M a _ hBr haM (by omega) _ Hget.out.symm) ?_
        rintro e w4 ⟨rfl, hb4⟩
        have g4 := cel hb4 hc2
        go_wp2
        go_roundw
        case measure => simp [intOf]; omega
        case rel => exact ⟨k + 1, a + Z, by omega, by go_num, rfl, Hnext, hn1, on hbel hb4⟩
      · obtain rfl : k = l.length := by omega
        have ha2 : a = M.length := by rw [Ha.out, HM.out, List.take_length]
        have hget : zres a (zget (M.drop a)) = (0, 0, 10) := by rw [ha2, List.drop_length]; rfl
        have Hget := Lib.hid hget
        have Ha2 := Lib.hid ha2
        have hbeq : ((a : Int) == (M.length : Int)) = true := by rw [beq_iff_eq]; omega
        clear hget ha2
        go_wp2_with fail
        refine Calls.mono (zget_in A2 c2 M a _ hBr haM (by omega) _ Hget.out.symm) ?_
        rintro e w4 ⟨rfl, hb4⟩
        have x4 := box hb4 xr
        have t4 := on tr hb4
        go_wp2
        go_ret
        exact ⟨rfl, t4⟩

end Go.Proofs.Ytbogjnfjnchfhaa
