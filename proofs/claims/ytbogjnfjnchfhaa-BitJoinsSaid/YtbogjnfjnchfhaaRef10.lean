/- Contracts of the document's own functions of layer 1: Join. -/
import Derived.Test.YtbogjnfjnchfhaaBit8
import Derived.Test.YtbogjnfjnchfhaaLaw1
import Derived.Test.YtbogjnfjnchfhaaRef2
import Derived.Test.YtbogjnfjnchfhaaRef3
import Derived.Test.YtbogjnfjnchfhaaRef4
namespace Go.Proofs.Ytbogjnfjnchfhaa
open Go.RowKit

set_option maxHeartbeats 2000000 in
theorem refJoin_ok (V : Option Addr) (c : Nat) (E : List (List UInt8 × Int)) (w : World) (hE : BsL w V E) (hs : soundE E = true) (hlen : E.length ≤ 1000) (hl : ∀ e ∈ E, e.1.length ≤ 1073741824) :
    Calls Try.prog 18 #[.slice V E.length c] w fun e w' =>
      ∃ A' c', e = .returned (.tuple #[.agg #[.slice A' (pack (catE E)).length c', .int .i64 (catE E).length], .int .i64 0]) ∧ OwnB w' w.heap.size (.slice A' (pack (catE E)).length c') (pack (catE E)) ∧ Below w.heap.size w w' := by
  have hcat := catE_len E 1073741824 hs hl
  have hcatB : (catE E).length ≤ 8589934592000 := by omega
  have htake := fun k h => catE_take_len E k h
  obtain ⟨T, hT⟩ : ∃ T, T = (catE E).length := ⟨_, rfl⟩
  have HS := Lib.hid hs
  have HT := Lib.hid hT
  have HK := Lib.hid htake
  have HL := Lib.hid hl
  rw [← hT] at hcatB
  clear hs hT htake hl hcat
  go_enter Try.func18, Try.ntmps18
  go_wp2
  go_loopw [4, 5] (fun v i wr => ∃ k : Nat, k ≤ E.length ∧ i = .int .i64 k ∧ OwnB wr (w.heap.size + 1) v (u8s (catE (E.take k))) ∧ Below (w.heap.size + 1) (w.alloc (.cells #[.slice none 0 0, .int .i64 0] 24)) wr)
    (fun _ i _ => E.length - (intOf i).toNat)
  case atStart => exact ⟨0, Nat.zero_le _, rfl, OwnB.nil _ _, Below.refl _ _⟩
  case round =>
    obtain ⟨k, hk, rfl, hown, hbel⟩ := hrel
    have sw := hbel.size
    simp only [World.size_alloc] at sw
    have bw : Below w.heap.size w wr := (below_alloc _ _).trans (hbel.mono (by omega))
    by_cases hlt : k < E.length
    · obtain ⟨p, o, A, c1, rfl, h1, h2, h3, h4⟩ := hE k E[k] (List.getElem?_eq_getElem hlt)
      have g1 := (bw.cell (cell_lt h1)).trans h1
      have g2 := (bw.cell (cell_lt h2)).trans h2
      have hB := h3.below bw
      have hsk := soundE_get HS.out k hlt
      have hll := HL.out _ (List.getElem_mem hlt)
      have hkk := HK.out k hlt
      rw [← HT.out] at hkk
      have hstep := catE_snoc E k hlt
      obtain ⟨n, hn⟩ : ∃ n, n = E[k] := ⟨_, rfl⟩
      rw [← hn] at g1 g2 hB hsk hll hkk h4 hstep
      clear h1 h2 h3 hn
      obtain ⟨n1, n2⟩ := n
      obtain ⟨m, rfl, hm8, -⟩ := sound_nat hsk
      simp only [Int.toNat_natCast] at g1 g2 hB hll hkk hstep
      obtain ⟨M, hM⟩ : ∃ M, M = catE (E.take k) := ⟨_, rfl⟩
      rw [← hM] at hkk hown hstep
      have HSk := Lib.hid hsk
      have HST := Lib.hid hstep
      clear hstep hsk hM
      go_wp2_with fail
      refine Calls.mono (refSound_any A c1 n1 m _ hB h4 (by omega)) ?_
      rw [HSk.out]
      rintro e w2 ⟨rfl, hb2⟩
      have q1 := cel hb2 g1
      have q2 := cel hb2 g2
      have bw2 := on bw hb2
      have hbel2 := hbel.trans (hb2.mono sw)
      have hown2 := hown.go hb2
      replace hB := hB.go hb2
      have s2 := hb2.size
      clear hown
      go_wp2_with fail
      refine Calls.mono (refList_any A c1 n1 m _ hB (by omega) (by omega)) ?_
      rintro e w3 ⟨A3, c3, rfl, hown3, hb3⟩
      have hL3 := hown3.bs
      have hbel3 := hbel2.trans (hb3.mono (by omega))
      have hown2 := hown2.go hb3
      have s3 := hb3.size
      have hul : (u8s (bitl n1 m)).length = m := by rw [u8s_length, bitl_length]
      have HU := Lib.hid hul
      have huM : (u8s M).length = M.length := u8s_length _
      have HuM := Lib.hid huM
      clear hul hown3 huM
      go_wp2_with (at_builtin; go_must (refine appAll _ rfl (.tmp 21) (.tmp 26) rfl (w.heap.size + 1) _ (u8s M) rfl hown2 A3 c3 (u8s (bitl n1 m)) (by rw [HU.out]; rfl) hL3 (by rw [HU.out, HuM.out]; omega) (by omega) ?_); intro A4 c4 w4 hown4 hb4)
      go_roundw
      case measure => simp [intOf]; omega
      case rel => exact ⟨k + 1, by omega, by go_num, by rw [HST.out, u8s_append]; exact hown4, hbel3.trans hb4⟩
    · obtain rfl : k = E.length := by omega
      rw [List.take_length] at hown
      obtain ⟨M, hM⟩ : ∃ M, M = catE E := ⟨_, rfl⟩
      have hML : M.length = T := by rw [hM, HT.out]
      rw [← hM] at hown
      have HMe := Lib.hid hM
      obtain ⟨A', c', hv9, hc1, hc2, hBs'⟩ := hown.isB
      rw [u8s_length] at hv9
      subst hv9
      have HM := Lib.hid hML
      have hML2 : M.length ≤ 17592186044416 := by omega
      clear hM hML
      go_wp2_with fail
      refine Calls.mono (refOf_any A' c' M _ hBs' hML2) ?_
      rintro e w4 ⟨A4, c4, rfl, hown4, hb4⟩
      have b4 := hbel.trans (hb4.mono sw)
      have r0 : w4.cell? ⟨w.heap.size, 0, none⟩ = some (.slice none 0 0) := (b4.cell (Nat.lt_succ_self _)).trans (box_cell _ _ _ _ _ rfl)
      have r1 : w4.cell? ⟨w.heap.size, 1, none⟩ = some (.int .i64 0) := (b4.cell (Nat.lt_succ_self _)).trans (box_cell _ _ _ _ _ rfl)
      have f0 : w4.frozen? ⟨w.heap.size, 0, none⟩ = false := (b4.frozen (p := ⟨w.heap.size, 0, none⟩) (Nat.lt_succ_self _)).trans (box_free _ _ _ _)
      have f1 : w4.frozen? ⟨w.heap.size, 1, none⟩ = false := (b4.frozen (p := ⟨w.heap.size, 1, none⟩) (Nat.lt_succ_self _)).trans (box_free _ _ _ _)
      go_wp2
      refine bodyPost_ret (v := .tuple #[.agg #[.slice A4 (pack M).length c4, .int .i64 M.length], .int .i64 0]) (by simp [results, Try.results18, go_sem, r0, r1]) rfl ?_
      rw [← HMe.out]
      have hne := hown4.ne (show w.heap.size < wr.heap.size by omega)
      exact ⟨_, _, rfl, ((hown4.mono (by omega)).far hne _).far hne _, (((below_alloc _ _).trans (b4.mono (by omega))).setCell (Nat.le_refl _) _).setCell (Nat.le_refl _) _⟩

set_option maxHeartbeats 2000000 in
theorem refJoin_err (V : Option Addr) (c : Nat) (E : List (List UInt8 × Int)) (w : World) (hE : BsL w V E) (hs : soundE E = false) (hlen : E.length ≤ 1000) (hl : ∀ e ∈ E, e.1.length ≤ 1073741824) :
    Calls Try.prog 18 #[.slice V E.length c] w fun e w' =>
      ∃ A' c', e = .returned (.tuple #[.agg #[.slice A' 0 c', .int .i64 0], .int .i64 11]) ∧ OwnB w' w.heap.size (.slice A' 0 c') [] ∧ Below w.heap.size w w' := by
  obtain ⟨K, hK, hbad, hgood⟩ := soundE_first hs
  have HG := Lib.hid hgood
  have HBad := Lib.hid hbad
  have HL := Lib.hid hl
  clear hs hgood hbad hl
  go_enter Try.func18, Try.ntmps18
  go_wp2
  go_loopw [4, 5] (fun v i wr => ∃ (k : Nat) (M : List Bool), k ≤ K ∧ i = .int .i64 k ∧ M.length ≤ k * 8589934592 ∧ OwnB wr (w.heap.size + 1) v (u8s M) ∧ Below (w.heap.size + 1) (w.alloc (.cells #[.slice none 0 0, .int .i64 0] 24)) wr)
    (fun _ i _ => E.length - (intOf i).toNat)
  case atStart => exact ⟨0, [], Nat.zero_le _, rfl, Nat.zero_le _, OwnB.nil _ _, Below.refl _ _⟩
  case round =>
    obtain ⟨k, M, hk, rfl, hM8, hown, hbel⟩ := hrel
    have hlt : k < E.length := by omega
    have sw := hbel.size
    simp only [World.size_alloc] at sw
    have bw : Below w.heap.size w wr := (below_alloc _ _).trans (hbel.mono (by omega))
    obtain ⟨p, o, A, c1, rfl, h1, h2, h3, h4⟩ := hE k E[k] (List.getElem?_eq_getElem hlt)
    have g1 := (bw.cell (cell_lt h1)).trans h1
    have g2 := (bw.cell (cell_lt h2)).trans h2
    have hB := h3.below bw
    have hll := HL.out _ (List.getElem_mem hlt)
    by_cases hkK : k < K
    · have hsk := HG.out k hkK
      obtain ⟨n, hn⟩ : ∃ n, n = E[k] := ⟨_, rfl⟩
      rw [← hn] at g1 g2 hB hsk hll h4
      clear h1 h2 h3 hn
      obtain ⟨n1, n2⟩ := n
      obtain ⟨m, rfl, hm8, -⟩ := sound_nat hsk
      simp only [Int.toNat_natCast] at g1 g2 hB hll
      have HSk := Lib.hid hsk
      clear hsk
      go_wp2_with fail
      refine Calls.mono (refSound_any A c1 n1 m _ hB h4 (by omega)) ?_
      rw [HSk.out]
      rintro e w2 ⟨rfl, hb2⟩
      have q1 := cel hb2 g1
      have q2 := cel hb2 g2
      have bw2 := on bw hb2
      have hbel2 := hbel.trans (hb2.mono sw)
      have hown2 := hown.go hb2
      replace hB := hB.go hb2
      have s2 := hb2.size
      clear hown
      go_wp2_with fail
      refine Calls.mono (refList_any A c1 n1 m _ hB (by omega) (by omega)) ?_
      rintro e w3 ⟨A3, c3, rfl, hown3, hb3⟩
      have hL3 := hown3.bs
      have hbel3 := hbel2.trans (hb3.mono (by omega))
      have hown2 := hown2.go hb3
      have s3 := hb3.size
      have hul : (u8s (bitl n1 m)).length = m := by rw [u8s_length, bitl_length]
      have HU := Lib.hid hul
      have huM : (u8s M).length = M.length := u8s_length _
      have HuM := Lib.hid huM
      clear hul hown3 huM
      go_wp2_with (at_builtin; go_must (refine appAll _ rfl (.tmp 21) (.tmp 26) rfl (w.heap.size + 1) _ (u8s M) rfl hown2 A3 c3 (u8s (bitl n1 m)) (by rw [HU.out]; rfl) hL3 (by rw [HU.out, HuM.out]; omega) (by omega) ?_); intro A4 c4 w4 hown4 hb4)
      go_roundw
      case measure => simp [intOf]; omega
      case rel => exact ⟨k + 1, M ++ bitl n1 m, by omega, by go_num, by rw [List.length_append, bitl_length]; omega, by rw [u8s_append]; exact hown4, hbel3.trans hb4⟩
    · obtain rfl : k = K := by omega
      have hsk := HBad.out
      obtain ⟨n, hn⟩ : ∃ n, n = E[k] := ⟨_, rfl⟩
      rw [← hn] at g1 g2 hB hsk hll h4
      clear h1 h2 h3 hn HBad
      obtain ⟨n1, n2⟩ := n
      simp only at g1 g2 hB hll hsk h4
      have HSk := Lib.hid hsk
      clear hsk
      have r0 : wr.cell? ⟨w.heap.size, 0, none⟩ = some (.slice none 0 0) := (hbel.cell (Nat.lt_succ_self _)).trans (box_cell _ _ _ _ _ rfl)
      have r1 : wr.cell? ⟨w.heap.size, 1, none⟩ = some (.int .i64 0) := (hbel.cell (Nat.lt_succ_self _)).trans (box_cell _ _ _ _ _ rfl)
      have f0 : wr.frozen? ⟨w.heap.size, 0, none⟩ = false := (hbel.frozen (p := ⟨w.heap.size, 0, none⟩) (Nat.lt_succ_self _)).trans (box_free _ _ _ _)
      have f1 : wr.frozen? ⟨w.heap.size, 1, none⟩ = false := (hbel.frozen (p := ⟨w.heap.size, 1, none⟩) (Nat.lt_succ_self _)).trans (box_free _ _ _ _)
      go_wp2_with fail
      refine Calls.mono (refSound_any A c1 n1 n2 _ hB h4 (by omega)) ?_
      rw [HSk.out]
      rintro e w2 ⟨rfl, hb2⟩
      have q0 := cel hb2 r0
      have q1 := cel hb2 r1
      have u0 : w2.frozen? ⟨w.heap.size, 0, none⟩ = false := ((go1 (w := wr) hb2).frozen (p := ⟨w.heap.size, 0, none⟩) (cell_lt r0)).trans f0
      have u1 : w2.frozen? ⟨w.heap.size, 1, none⟩ = false := ((go1 (w := wr) hb2).frozen (p := ⟨w.heap.size, 1, none⟩) (cell_lt r1)).trans f1
      clear r0 r1 f0 f1
      go_wp2
      refine bodyPost_ret (v := .tuple #[.agg #[.slice none 0 0, .int .i64 0], .int .i64 11]) (by simp [results, Try.results18, go_sem, q0, q1]) rfl ?_
      exact ⟨_, _, rfl, OwnB.nil _ _, ((on bw hb2).setCell (Nat.le_refl _) _).setCell (Nat.le_refl _) _⟩

theorem refJoin_any (V : Option Addr) (c : Nat) (E : List (List UInt8 × Int)) (w : World) (hE : BsL w V E) (hlen : E.length ≤ 1000) (hl : ∀ e ∈ E, e.1.length ≤ 1073741824) :
    Calls Try.prog 18 #[.slice V E.length c] w fun e w' =>
      ∃ A' c', e = .returned (.tuple #[.agg #[.slice A' (joinSpec E).1.length c', .int .i64 (joinSpec E).2.1], .int .i64 (joinSpec E).2.2]) ∧ OwnB w' w.heap.size (.slice A' (joinSpec E).1.length c') (joinSpec E).1 ∧ Below w.heap.size w w' := by
  unfold joinSpec
  split
  · rename_i h; exact refJoin_ok V c E w hE h hlen hl
  · rename_i h; exact refJoin_err V c E w hE (by simpa using h) hlen hl

end Go.Proofs.Ytbogjnfjnchfhaa
