/- The statements ZigApart, ZigBack: rows of numbers. -/
import Derived.Test.YtbogjnfjnchfhaaOwn
import Derived.Test.YtbogjnfjnchfhaaZig7
import Derived.Test.YtbogjnfjnchfhaaFrameV
import Derived.Deep.RegionHeld3
import Derived.StillTailTactics
import Derived.Deep.RegionWith
namespace Go.Proofs.Ytbogjnfjnchfhaa
open Go.RowKit

theorem cup0 {w W : World} [u : Up w W] {a : Addr} {v : Value} (c : w.cell? a = some v) : W.cell? a = some v := (u.below.cell (cell_lt c)).trans c

set_option maxHeartbeats 2000000 in
theorem zrow_any (V : Option Addr) (c : Nat) (l : List Int) (w : World) (hV : Vs w V (l.map (Value.int .i64))) (hl : l.length ≤ 1000) (hv : ∀ v ∈ l, -9223372036854775808 ≤ v ∧ v ≤ 9223372036854775807) :
    Calls Try.prog 21 #[.slice V l.length c] w fun e w' =>
      ∃ M A' c', Hid (M = zrowl l) ∧ M.length ≤ 69 * l.length ∧ e = .returned (.agg #[.slice A' (pack M).length c', .int .i64 M.length]) ∧ OwnB w' w.heap.size (.slice A' (pack M).length c') (pack M) ∧ Below w.heap.size w w' := by
  have HV := Lib.hid hv
  clear hv
  go_enter Try.func21, Try.ntmps21
  have kA := keepA
  go_wp2_with fail
  have X0 : Blk ((w.alloc (.cells #[.slice none 0 0, .int .i64 0] 24)).alloc (.cells #[.slice none 0 0, .int .i64 0] 24)) (w.heap.size + 1) 24 #[.slice none (pack []).length 0, .int .i64 (([] : List Bool).length : Nat)] := by
    have h := Blk.new (w.alloc (.cells #[.slice none 0 0, .int .i64 0] 24)) 24 #[.slice none 0 0, .int .i64 0]
    rw [World.size_alloc] at h
    exact h
  go_loopw [4] (fun i wr => ∃ (k : Nat) (M : List Bool) (A : Option Addr) (c : Nat), k ≤ l.length ∧ i = .int .i64 k ∧ Hid (M = zrowl (l.take k)) ∧ M.length ≤ 69 * k ∧ Blk wr (w.heap.size + 1) 24 #[.slice A (pack M).length c, .int .i64 M.length] ∧
      OwnB wr (w.heap.size + 2) (.slice A (pack M).length c) (pack M) ∧ Below (w.heap.size + 1) (w.alloc (.cells #[.slice none 0 0, .int .i64 0] 24)) wr)
    (fun i _ => l.length - (intOf i).toNat)
  case atStart => exact ⟨0, [], none, 0, Nat.zero_le _, rfl, rfl, Nat.zero_le _, X0, OwnB.nil _ _, (Below.refl _ _).alloc (by simp) _⟩
  case round =>
    obtain ⟨k, M, A, c1, hk, rfl, HM, hMl, HX, hown, hbel⟩ := hrel
    have x0 := HX.duo
    have sx := HX.lt
    by_cases hlt : k < l.length
    · obtain ⟨p, o, rfl, hc⟩ := hV k (.int .i64 l[k]) (by rw [List.getElem?_map, List.getElem?_eq_getElem hlt]; rfl)
      have hpl := cell_lt hc
      have hcr : wr.cell? ⟨p, o + k, none⟩ = some (.int .i64 l[k]) := by
        rw [hbel.cell (Nat.lt_succ_of_lt hpl), World.cell?_alloc_lt _ _ _ hpl]; exact hc
      have hvk := HV.out l[k] (List.getElem_mem hlt)
      clear hc
      go_upto_region 5 with fail
      go_cut [5, 6] (fun s5 s6 wx => ∃ (g : Nat) (M2 : List Bool) (A2 : Option Addr) (c2 : Nat), s5 = .pointer (some ⟨g, 0, none⟩) ∧ s6 = .int .u16 0 ∧ Hid (M2 = M ++ zenc (foldZ l[k])) ∧ M2.length ≤ M.length + 69 ∧ Blk wx g 24 #[.slice A2 (pack M2).length c2, .int .i64 M2.length] ∧ wr.heap.size ≤ g ∧
        OwnB wx wr.heap.size (.slice A2 (pack M2).length c2) (pack M2) ∧ Below wr.heap.size wr wx)
      case first =>
        go_region_with (go_at_call 26; refine (zputM A c1 M l[k] _ (hown.bs.up) (by omega) hvk).mono ?_; rintro e w3 ⟨M2, A2, c2, HM2, hM2l, hM2u, rfl, hO2, hb3⟩; try have Y3 := ((Blk.new wr 24 #[.slice none 0 0, .int .i64 0]).drew.go hb3).duo)
        all_goals
          go_wp2_with fail
          go_meet
          first
            | exact ⟨w3.heap.size, M2, A2, c2, rfl, rfl, HM2, hM2u, Blk.new _ _ _, hb3.size, hO2.alloc _, (go1 (w := wr) hb3).alloc hb3.size _⟩
            | exact ⟨wr.heap.size, M2, A2, c2, rfl, rfl, HM2, hM2u, ((Blk.new wr 24 #[.slice none 0 0, .int .i64 0]).drew.go hb3).set2 _ _, Nat.le_refl _,
                (((hO2.far (hO2.ne (show wr.heap.size < _ by simp)) _).far (hO2.ne (show wr.heap.size < _ by simp)) _).mono (by simp)), (((go1 (w := wr) hb3).setCell (Nat.le_refl _) _).setCell (Nat.le_refl _) _)⟩
      case rest =>
        obtain ⟨g, M2, A2, c2, rfl, rfl, HM2, hM2u, Y, hg, hO2, hb3⟩ := hcut
        have y0 := Y.duo.1
        have X3 := HX.below hb3 sx
        have x3 := X3.duo
        have s3 := hb3.size
        have hne := hO2.ne (show w.heap.size + 1 < wr.heap.size from sx)
        have hgl := Y.lt
        clear x0
        go_wp2
        go_roundw
        case measure => simp [intOf]; omega
        case rel => exact ⟨k + 1, M2, A2, c2, by omega, by go_num, Lib.hid (by rw [HM2.out, HM.out, List.take_succ_eq_append_getElem hlt, zrowl_snoc]), by omega, X3.set2 _ _,
          ((hO2.far hne _).far hne _).mono (by omega), (((hbel.trans (hb3.mono (by omega))).setCell (Nat.le_refl _) _).setCell (Nat.le_refl _) _)⟩
    · obtain rfl : k = l.length := by omega
      have R := (Blk.new w 24 #[.slice none 0 0, .int .i64 0]).below hbel (Nat.lt_succ_self _)
      have r0 := R.duo
      have hne := hown.ne (show w.heap.size < w.heap.size + 2 by omega)
      rw [List.take_length] at HM
      go_wp2
      refine bodyPost_ret (results_cell_row Try.results21 _ _ w.heap.size 24 _ (0, 0) _ rfl (R.set2 (.slice A (pack M).length c1) (.int .i64 M.length)) Try.underlying24 rfl (by kernel_rfl)) rfl ?_
      exact ⟨M, A, c1, HM, by omega, rfl, ((hown.mono (by omega)).far hne _).far hne _, ((((below_alloc w _).trans (hbel.mono (by omega))).setCell (Nat.le_refl _) _).setCell (Nat.le_refl _) _)⟩

theorem zigApart_end {a b : List Int} (ha : ∀ v ∈ a, -9223372036854775808 ≤ v ∧ v ≤ 9223372036854775807) (hb : ∀ v ∈ b, -9223372036854775808 ≤ v ∧ v ≤ 9223372036854775807) : decide (zrowl a = zrowl b) = decide (a = b) := by
  rw [Bool.eq_iff_iff, decide_eq_true_eq, decide_eq_true_eq]
  exact ⟨zrowl_inj ha hb, fun h => by rw [h]⟩

end Go.Proofs.Ytbogjnfjnchfhaa
