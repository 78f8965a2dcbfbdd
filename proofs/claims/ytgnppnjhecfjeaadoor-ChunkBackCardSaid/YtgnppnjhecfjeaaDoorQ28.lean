/- Joined: Bit8L, Chk9L, Chk23, Chk24, Bit6F, Chk25, Chk26. -/
import Derived.Test.YtgnppnjhecfjeaaDoorQ27
import Derived.Deep.RegionWith
import Derived.Test.YtgnppnjhecfjeaaDoorQ6
import Derived.Test.YtgnppnjhecfjeaaDoorQ1
import Derived.Deep.RegionHeld3
set_option linter.unusedSimpArgs false
set_option linter.unusedVariables false
/- Join, of up to 5000 parts. -/
namespace Go.Proofs.YtgnppnjhecfjeaaDoor
open Go.RowKit

set_option maxHeartbeats 2000000 in
theorem join_okL (V : Option Addr) (c : Nat) (E : List (List UInt8 × Int)) (w : World) (hE : BsL w V E) (hs : soundE E = true) (hlen : E.length ≤ 5000) (hl : ∀ e ∈ E, e.1.length ≤ 67108864) :
    Calls Tryd.prog 46 #[.slice V E.length c] w fun e w' =>
      ∃ A' c', e = .returned (.tuple #[.agg #[.slice A' (pack (catE E)).length c', .int .i64 (catE E).length], .int .u16 0]) ∧ OwnB w' w.heap.size (.slice A' (pack (catE E)).length c') (pack (catE E)) ∧ Below w.heap.size w w' := by
  have hcat := catE_len E 67108864 hs hl
  have hcatB : (catE E).length ≤ 2684354560000 := by omega
  have htake := fun k h => catE_take_len E k h
  obtain ⟨T, hT⟩ : ∃ T, T = (catE E).length := ⟨_, rfl⟩
  have HS := Lib.hid hs
  have HT := Lib.hid hT
  have HK := Lib.hid htake
  have HL := Lib.hid hl
  rw [← hT] at hcatB
  clear hs hT htake hl hcat
  go_enter Tryd.func46, Tryd.ntmps46
  go_wp2
  go_loopw [4, 13] (fun q i wr => ∃ k : Nat, k ≤ E.length ∧ i = .int .i64 k ∧ q = .int .i64 (catE (E.take k)).length ∧ Below (w.heap.size + 1) (w.alloc (.cells #[.slice none 0 0, .int .i64 0] 24)) wr)
    (fun _ i _ => E.length - (intOf i).toNat)
  case atStart => exact ⟨0, Nat.zero_le _, rfl, rfl, Below.refl _ _⟩
  case round =>
    obtain ⟨k, hk, rfl, rfl, hbel⟩ := hrel
    by_cases hlt : k < E.length
    · obtain ⟨p, o, A, c1, rfl, h1, h2, h3, h4⟩ := hE k E[k] (List.getElem?_eq_getElem hlt)
      have bw : Below w.heap.size w wr := (below_alloc _ _).trans (hbel.mono (by omega))
      have g1 := (bw.cell (cell_lt h1)).trans h1
      have g2 := (bw.cell (cell_lt h2)).trans h2
      have hB := h3.below bw
      have hsk := soundE_get HS.out k hlt
      have hll := HL.out _ (List.getElem_mem hlt)
      have hkk := HK.out k hlt
      rw [← HT.out] at hkk
      have hstep := catE_snoc E k hlt
      obtain ⟨n, hn⟩ : ∃ n, n = E[k] := ⟨_, rfl⟩
      rw [← hn] at g1 g2 hB hsk hll hkk h4 hstep
      clear h1 h2 h3 hn
      obtain ⟨n1, n2⟩ := n
      obtain ⟨m, rfl, hm8, -⟩ := sound_nat hsk
      simp only [Int.toNat_natCast] at g1 g2 hB hll hkk hstep
      obtain ⟨M, hM⟩ : ∃ M, M = (catE (E.take k)).length := ⟨_, rfl⟩
      have hM2 : (catE (E.take (k + 1))).length = M + m := by rw [hstep, List.length_append, bitl_length, hM]
      rw [← hM] at hkk ⊢
      have HM := Lib.hid hM
      have HM2 := Lib.hid hM2
      have HSk := Lib.hid hsk
      clear hM hM2 hstep hsk
      go_wp2_with fail
      refine Calls.mono (sound_any A c1 n1 m _ (hB.below (below_alloc _ _)) h4 (by unfold maxLen; omega)) ?_
      rw [HSk.out]
      rintro e w2 ⟨rfl, hb2⟩
      have x2 := boxN hb2
      have sw := hbel.size
      simp only [World.size_alloc] at sw
      go_wp2
      go_roundw
      case measure => simp [intOf]; omega
      case rel => exact ⟨k + 1, by omega, by go_num, by rw [HM2.out]; go_num, (hbel.alloc sw _).trans (hb2.mono (by simp; omega))⟩
    · obtain rfl : k = E.length := by omega
      rw [List.take_length, ← HT.out]
      clear hlt hk
      have sw := hbel.size
      simp only [World.size_alloc] at sw
      have bw : Below w.heap.size w wr := (below_alloc _ _).trans (hbel.mono (by omega))
      obtain ⟨N, hN⟩ : ∃ N, N = nb T := ⟨_, rfl⟩
      have hN8 : T ≤ 8 * N ∧ 8 * N ≤ T + 7 := by rw [hN]; unfold nb; omega
      have HN := Lib.hid hN
      clear hN
      go_wp2_with fail
      refine Calls.mono (bytesOf_any T _ (by omega)) ?_
      rw [← HN.out]
      rintro e w2 ⟨rfl, rfl⟩
      go_wp2_with (at_make; go_must (refine mkB _ rfl (.tmp 27) (.tmp 27) rfl (w.heap.size + 1) N rfl rfl (by omega) sw ?_); intro w3 hown3 hb3)
      have s3 := hown3.lt
      have b3 : Below (w.heap.size + 1) (w.alloc (.cells #[.slice none 0 0, .int .i64 0] 24)) w3 := hbel.trans (hb3.mono sw)
      have w13 : Below w.heap.size w w3 := bw.trans (hb3.mono (by omega))
      obtain ⟨g, hg⟩ : ∃ g, g = wr.heap.size := ⟨_, rfl⟩
      rw [← hg] at hown3 s3 ⊢
      have Hg := Lib.hid hg
      have hgw : w.heap.size < g := by omega
      clear hbel hb3 bw sw hg
      go_loopw [8, 31] (fun q i wr => ∃ (k : Nat) (bb : List UInt8), k ≤ E.length ∧ i = .int .i64 k ∧ q = .int .i64 (catE (E.take k)).length ∧ OwnB wr (w.heap.size + 1) (.slice (some ⟨g, 0, none⟩) N N) bb ∧ Hid (Begins bb (catE (E.take k))) ∧ w3.grownBy wr (some g))
        (fun _ i _ => E.length - (intOf i).toNat)
      case atStart => exact ⟨0, _, Nat.zero_le _, rfl, rfl, hown3, Begins.zero N, World.grownBy.refl _ _⟩
      case round =>
        obtain ⟨k, bb, hk, rfl, rfl, hown, HB, hgr⟩ := hrel
        by_cases hlt : k < E.length
        · obtain ⟨p, o, A, c1, rfl, h1, h2, h3, h4⟩ := hE k E[k] (List.getElem?_eq_getElem hlt)
          have hpw := cell_lt h1
          have g1 := grown_cell3 hgr ((w13.cell (cell_lt h1)).trans h1) (fun e => by injection e with e; simp only at hpw; omega)
          have g2 := grown_cell3 hgr ((w13.cell (cell_lt h2)).trans h2) (fun e => by injection e with e; simp only at hpw; omega)
          have hB := h3.old w13 hgr (by omega)
          have hsk := soundE_get HS.out k hlt
          have hll := HL.out _ (List.getElem_mem hlt)
          have hkk := HK.out k hlt
          rw [← HT.out] at hkk
          have hstep := catE_snoc E k hlt
          obtain ⟨n, hn⟩ : ∃ n, n = E[k] := ⟨_, rfl⟩
          rw [← hn] at g1 g2 hB hsk hll hkk h4 hstep h3
          clear h1 h2 hn
          obtain ⟨n1, n2⟩ := n
          obtain ⟨m, rfl, hm8, hnb⟩ := sound_nat hsk
          simp only [Int.toNat_natCast] at g1 g2 hB hll hkk hstep h3
          obtain ⟨M, hM⟩ : ∃ M, M = (catE (E.take k)).length := ⟨_, rfl⟩
          have hM2 : (catE (E.take (k + 1))).length = M + m := by rw [hstep, List.length_append, bitl_length, hM]
          rw [← hM] at hkk ⊢
          have HM := Lib.hid hM
          have HM2 := Lib.hid hM2
          have HSk := Lib.hid hsk
          have HST := Lib.hid hstep
          have hz := ((soundB_iff n1 m).1 hsk).2.2
          have HZ := Lib.hid hz
          have HNB := Lib.hid hnb
          have hgl := hown.lt
          have hxg : wr.heap.size ≠ g := by omega
          clear hM hM2 hstep hsk hz hnb
          go_wp2_with fail
          refine Calls.mono (lay_any (w.heap.size + 1) g N N bb n1 M m A c1 _ hown.up hB.up (fun h0 p' o' hA => by have := h3.lt h0 hA; omega) (by simpa using HZ.out) HNB.out (by omega) (by omega)) ?_
          rintro e w5 ⟨rfl, L5, hown5, HL5, hg5⟩
          have y5 := grown_cell3 hg5 (box_cell wr #[.slice A n1.length c1, .int .i64 m] 24 1 _ rfl) (fun e => hxg (by injection e))
          have hg2 : w3.grownBy w5 (some g) := World.grownBy.andThen (only_new hgr (below_alloc _ _)) hg5 (fun j h => .inr h)
          go_wp2
          go_roundw
          case measure => simp [intOf]; omega
          case rel => exact ⟨k + 1, L5, by omega, by go_num, by rw [HM2.out]; go_num, hown5, by rw [HST.out]; exact HB.out.lay HSk.out (by have := HL5.out; rw [HM.out] at this; exact this), hg2⟩
        · obtain rfl : k = E.length := by omega
          have HB2 := HB.out
          rw [List.take_length] at HB2 ⊢
          rw [← HT.out]
          have hbl : bb.length = N := by have := hown.len (g := 0); omega
          have HE : Hid (bb = pack (catE E)) := HB2.pack (by rw [hbl, HN.out, HT.out])
          have HNp : Hid (N = (pack (catE E)).length) := by rw [← HE.out]; exact hbl.symm
          clear HB2 hbl
          have hgl := hown.lt
          have bw2 : Below (w.heap.size + 1) w3 wr := (Below.refl _ _).grown hgr (by have := s3.2; omega) fun j hj => by injection hj with hj; omega
          have b4 := b3.trans bw2
          have r0 : wr.cell? ⟨w.heap.size, 0, none⟩ = some (.slice none 0 0) := (b4.cell (Nat.lt_succ_self _)).trans (box_cell _ _ _ _ _ rfl)
          have r1 : wr.cell? ⟨w.heap.size, 1, none⟩ = some (.int .i64 0) := (b4.cell (Nat.lt_succ_self _)).trans (box_cell _ _ _ _ _ rfl)
          have f0 : wr.frozen? ⟨w.heap.size, 0, none⟩ = false := (b4.frozen (p := ⟨w.heap.size, 0, none⟩) (Nat.lt_succ_self _)).trans (box_free _ _ _ _)
          have f1 : wr.frozen? ⟨w.heap.size, 1, none⟩ = false := (b4.frozen (p := ⟨w.heap.size, 1, none⟩) (Nat.lt_succ_self _)).trans (box_free _ _ _ _)
          go_wp2
          refine bodyPost_ret (v := .tuple #[.agg #[.slice (some ⟨g, 0, none⟩) N N, .int .i64 T], .int .u16 0]) (by simp [results, Tryd.results46, go_sem, r0, r1]) rfl ?_
          rw [← HE.out, ← HT.out, show bb.length = N by rw [HE.out, ← HNp.out]]
          have hne := hown.ne (show w.heap.size < w.heap.size + 1 by omega)
          exact ⟨_, _, rfl, ((hown.mono (by omega)).far hne _).far hne _, (((below_alloc _ _).trans (b4.mono (by omega))).setCell (Nat.le_refl _) _).setCell (Nat.le_refl _) _⟩

set_option maxHeartbeats 2000000 in
theorem join_errL (V : Option Addr) (c : Nat) (E : List (List UInt8 × Int)) (w : World) (hE : BsL w V E) (hs : soundE E = false) (hlen : E.length ≤ 5000) (hl : ∀ e ∈ E, e.1.length ≤ 67108864) :
    Calls Tryd.prog 46 #[.slice V E.length c] w fun e w' =>
      ∃ A' c', e = .returned (.tuple #[.agg #[.slice A' 0 c', .int .i64 0], .int .u16 11]) ∧ OwnB w' w.heap.size (.slice A' 0 c') [] ∧ Below w.heap.size w w' := by
  obtain ⟨K, hK, hbad, hgood⟩ := soundE_first hs
  have HG := Lib.hid hgood
  have HBad := Lib.hid hbad
  have HL := Lib.hid hl
  clear hs hgood hbad hl
  go_enter Tryd.func46, Tryd.ntmps46
  go_wp2
  go_loopw [4, 13] (fun q i wr => ∃ k T : Nat, k ≤ K ∧ i = .int .i64 k ∧ q = .int .i64 T ∧ T ≤ k * 536870912 ∧ Below (w.heap.size + 1) (w.alloc (.cells #[.slice none 0 0, .int .i64 0] 24)) wr)
    (fun _ i _ => E.length - (intOf i).toNat)
  case atStart => exact ⟨0, 0, Nat.zero_le _, rfl, rfl, Nat.zero_le _, Below.refl _ _⟩
  case round =>
    obtain ⟨k, T, hk, rfl, rfl, hT, hbel⟩ := hrel
    have hlt : k < E.length := by omega
    obtain ⟨p, o, A, c1, rfl, h1, h2, h3, h4⟩ := hE k E[k] (List.getElem?_eq_getElem hlt)
    have bw : Below w.heap.size w wr := (below_alloc _ _).trans (hbel.mono (by omega))
    have g1 := (bw.cell (cell_lt h1)).trans h1
    have g2 := (bw.cell (cell_lt h2)).trans h2
    have hB := h3.below bw
    have hll := HL.out _ (List.getElem_mem hlt)
    have sw := hbel.size
    simp only [World.size_alloc] at sw
    by_cases hkK : k < K
    · have hsk := HG.out k hkK
      obtain ⟨n, hn⟩ : ∃ n, n = E[k] := ⟨_, rfl⟩
      rw [← hn] at g1 g2 hB hsk hll h4
      clear h1 h2 h3 hn
      obtain ⟨n1, n2⟩ := n
      obtain ⟨m, rfl, hm8, -⟩ := sound_nat hsk
      simp only at g1 g2 hB hll
      have HSk := Lib.hid hsk
      clear hsk
      go_wp2_with fail
      refine Calls.mono (sound_any A c1 n1 m _ (hB.below (below_alloc _ _)) h4 (by unfold maxLen; omega)) ?_
      rw [HSk.out]
      rintro e w2 ⟨rfl, hb2⟩
      have x2 := boxN hb2
      go_wp2
      go_roundw
      case measure => simp [intOf]; omega
      case rel => exact ⟨k + 1, T + m, by omega, by go_num, by go_num, by omega, (hbel.alloc sw _).trans (hb2.mono (by simp; omega))⟩
    · obtain rfl : k = K := by omega
      have hsk := HBad.out
      obtain ⟨n, hn⟩ : ∃ n, n = E[k] := ⟨_, rfl⟩
      rw [← hn] at g1 g2 hB hsk hll h4
      clear h1 h2 h3 hn HBad
      obtain ⟨n1, n2⟩ := n
      simp only at g1 g2 hB hll hsk h4
      have HSk := Lib.hid hsk
      clear hsk
      have r0 : wr.cell? ⟨w.heap.size, 0, none⟩ = some (.slice none 0 0) := (hbel.cell (Nat.lt_succ_self _)).trans (box_cell _ _ _ _ _ rfl)
      have r1 : wr.cell? ⟨w.heap.size, 1, none⟩ = some (.int .i64 0) := (hbel.cell (Nat.lt_succ_self _)).trans (box_cell _ _ _ _ _ rfl)
      have f0 : wr.frozen? ⟨w.heap.size, 0, none⟩ = false := (hbel.frozen (p := ⟨w.heap.size, 0, none⟩) (Nat.lt_succ_self _)).trans (box_free _ _ _ _)
      have f1 : wr.frozen? ⟨w.heap.size, 1, none⟩ = false := (hbel.frozen (p := ⟨w.heap.size, 1, none⟩) (Nat.lt_succ_self _)).trans (box_free _ _ _ _)
      go_wp2_with fail
      refine Calls.mono (sound_any A c1 n1 n2 _ (hB.below (below_alloc _ _)) h4 (by unfold maxLen; omega)) ?_
      rw [HSk.out]
      rintro e w2 ⟨rfl, hb2⟩
      have q0 := cel hb2 r0
      have q1 := cel hb2 r1
      have u0 : w2.frozen? ⟨w.heap.size, 0, none⟩ = false := ((go1 (w := wr) hb2).frozen (p := ⟨w.heap.size, 0, none⟩) (cell_lt r0)).trans f0
      have u1 : w2.frozen? ⟨w.heap.size, 1, none⟩ = false := ((go1 (w := wr) hb2).frozen (p := ⟨w.heap.size, 1, none⟩) (cell_lt r1)).trans f1
      clear r0 r1 f0 f1
      go_wp2
      refine bodyPost_ret (v := .tuple #[.agg #[.slice none 0 0, .int .i64 0], .int .u16 11]) (by simp [results, Tryd.results46, go_sem, q0, q1]) rfl ?_
      exact ⟨_, _, rfl, OwnB.nil _ _, ((on bw hb2).setCell (Nat.le_refl _) _).setCell (Nat.le_refl _) _⟩

theorem join_anyL (V : Option Addr) (c : Nat) (E : List (List UInt8 × Int)) (w : World) (hE : BsL w V E) (hlen : E.length ≤ 5000) (hl : ∀ e ∈ E, e.1.length ≤ 67108864) :
    Calls Tryd.prog 46 #[.slice V E.length c] w fun e w' =>
      ∃ A' c', e = .returned (.tuple #[.agg #[.slice A' (joinSpec E).1.length c', .int .i64 (joinSpec E).2.1], .int .u16 (joinSpec E).2.2]) ∧ OwnB w' w.heap.size (.slice A' (joinSpec E).1.length c') (joinSpec E).1 ∧ Below w.heap.size w w' := by
  unfold joinSpec
  split
  · rename_i h; exact join_okL V c E w hE h hlen hl
  · rename_i h; exact join_errL V c E w hE (by simpa using h) hlen hl

theorem BsL.twoL {w : World} {t : TypeId} {g : Nat} (hg : g = w.heap.size) {A B : Option Addr} {c d : Nat} {l m : List UInt8} {i j : Nat} (ha : Bs w A l) (hb : Bs w B m) (hi : i ≤ 9223372036854775807) (hj : j ≤ 9223372036854775807) :
    BsL (w.alloc (.cells #[.slice A l.length c, .int .i64 i, .slice B m.length d, .int .i64 j] t)) (some ⟨g, 0, none⟩) [(l, (i : Int)), (m, (j : Int))]   := fun k e he => by
  subst hg
  match k, he with
  | 0, he => simp at he; subst he; exact ⟨_, 0, A, c, rfl, box_cell _ _ _ _ _ rfl, box_cell _ _ _ _ _ rfl, ha.up, by simp; omega⟩
  | 1, he => simp at he; subst he; exact ⟨_, 0, B, d, rfl, box_cell _ _ _ _ _ rfl, box_cell _ _ _ _ _ rfl, hb.up, by simp; omega⟩
theorem BsL.threeL {w : World} {t : TypeId} {g : Nat} (hg : g = w.heap.size) {A B C : Option Addr} {c d f : Nat} {l m n : List UInt8} {i j q : Nat} (ha : Bs w A l) (hb : Bs w B m) (hc : Bs w C n) (hi : i ≤ 9223372036854775807) (hj : j ≤ 9223372036854775807) (hq : q ≤ 9223372036854775807) :
    BsL (w.alloc (.cells #[.slice A l.length c, .int .i64 i, .slice B m.length d, .int .i64 j, .slice C n.length f, .int .i64 q] t)) (some ⟨g, 0, none⟩) [(l, (i : Int)), (m, (j : Int)), (n, (q : Int))]   := fun k e he => by
  subst hg
  match k, he with
  | 0, he => simp at he; subst he; exact ⟨_, 0, A, c, rfl, box_cell _ _ _ _ _ rfl, box_cell _ _ _ _ _ rfl, ha.up, by simp; omega⟩
  | 1, he => simp at he; subst he; exact ⟨_, 0, B, d, rfl, box_cell _ _ _ _ _ rfl, box_cell _ _ _ _ _ rfl, hb.up, by simp; omega⟩
  | 2, he => simp at he; subst he; exact ⟨_, 0, C, f, rfl, box_cell _ _ _ _ _ rfl, box_cell _ _ _ _ _ rfl, hc.up, by simp; omega⟩

end Go.Proofs.YtgnppnjhecfjeaaDoor

/- The program's Of, of up to 5000 samples. -/
namespace Go.Proofs.YtgnppnjhecfjeaaDoor
open Go.RowKit
set_option maxRecDepth 100000

set_option maxHeartbeats 4000000 in
theorem cof_anyL (V : Option Addr) (c : Nat) (l : List (Int × Nat)) (w : World) (hV : Ss w V l) (hl : l.length ≤ 5000) (hi : InC l) (hT : Tab w) :
    Calls Tryd.prog 24 #[.slice V l.length c] w fun e w' => OutC (ofC ec0 l) .u16 w.heap.size e w' ∧ Below w.heap.size w w' := by
  obtain ⟨R, hR⟩ : ∃ R, R = ofC ec0 l := ⟨_, rfl⟩
  rw [← hR]
  have HR := Lib.hid hR
  have HT := Lib.hid hT
  have HV := Lib.hid hV
  have HI := Lib.hid hi
  clear hR hT hV hi
  have hlm : l.length ≤ maxLen := by unfold maxLen; omega
  have K0 := ((Qs.zero w).box #[.slice none 0 0, .int .i64 0] 24).box #[.int .i64 0, .int .i64 0, .int .i64 0, .bool false, .int .u64 0, .int .u8 0, .int .u8 0] 48
  simp only [World.size_alloc] at K0
  go_enter Tryd.func24, Tryd.ntmps24
  go_wp2_with (at_make; go_must (refine mkR Tryd.eltBE (.agg #[.slice none 0 0, .int .i64 0]) (none, 0, 0, 0) Tryd.infoBE rfl _ rfl (.tmp 15) (.tmp 15) rfl (w.heap.size + 2) l.length rfl rfl hlm (by omega) (by simp) ?_); intro w3 hown3 hb3)
  have HK := Lib.hid (((K0.go hb3).row_ hown3).box #[.int .i64 0, .int .i64 0, .int .i64 0, .bool false, .int .u64 0, .int .u8 0, .int .u8 0] 48)
  have z3 := hb3.size
  simp only [World.size_alloc] at z3 HK
  clear K0 hown3 hb3
  go_loopw [19] (fun i wr => ∃ (k hi : Nat) (CL : List BE), k ≤ l.length ∧ CL.length = l.length ∧ i = .int .i64 k ∧ Hid (RiseC ec0 (l.take k)) ∧ w3.heap.size + 1 ≤ hi ∧
      Hid (Qs wr [qC (w3.heap.size + 1) hi CL (codeL ec0 (l.take k)), qB w3.heap.size 48 (lastC ec0 (l.take k)).cells, qR (w.heap.size + 2) w3.heap.size 24 encBE 2 (.slice (some ⟨w.heap.size + 1 + 1, 0, none⟩) l.length l.length) CL,
        qB (w.heap.size + 1) 48 #[.int .i64 0, .int .i64 0, .int .i64 0, .bool false, .int .u64 0, .int .u8 0, .int .u8 0], qB w.heap.size 24 #[.slice none 0 0, .int .i64 0], qW w w.heap.size (Nat.le_refl _)]))
    (fun i _ => l.length - (intOf i).toNat)
  case atStart =>
    refine ⟨0, w3.heap.size + 1, List.replicate l.length (none, 0, 0, 0), Nat.zero_le _, List.length_replicate .., rfl, Lib.hid trivial, Nat.le_refl _, Lib.hid ?_⟩
    refine ((((((Qs.nil _).cons (HK.out.get 4 rfl)).cons (HK.out.get 3 rfl)).cons (HK.out.get 2 rfl)).cons (HK.out.get 1 rfl)).cons (k := qB w3.heap.size 48 _) (HK.out.get 0 rfl)).cons (k := qC _ _ _ _) ⟨fun j M hj => by simp [codeL] at hj, by simp⟩
  case round =>
    obtain ⟨k, hi, CL, hk, hCL, rfl, HRi, hhi, HQ⟩ := hrel
    clear HK
    have HK := HQ
    clear HQ
    have zr := (HK.out.blk 1).lt
    have hkl : (l.take k).length = k := by rw [List.length_take]; omega
    have hrows := rows_ok (l.take k) ec0 ok0 (Int.le_refl _) (by show (0 : Int) + _ ≤ _; omega) (fun s hs => HI.out s (List.mem_of_mem_take hs))
    rw [hkl] at hrows
    have hcl : (codeL ec0 (l.take k)).length = k := by rw [codeL_length, hkl]
    have HCL := Lib.hid hCL
    clear hCL
    rcases Nat.lt_or_ge k l.length with hlt | hge
    · obtain ⟨t, v, hs⟩ : ∃ t v, l[k] = (t, v) := ⟨_, _, rfl⟩
      have hsi := HI.out l[k] (List.getElem_mem hlt)
      obtain ⟨p, o, rfl, q1, q2⟩ := (HV.out.below (HK.out.top 5)) k l[k] (List.getElem?_eq_getElem hlt)
      rw [hs] at hsi q1 q2
      dsimp only at hsi q1 q2
      have htake : l.take (k + 1) = l.take k ++ [(t, v)] := by rw [← hs, List.take_append_getElem hlt]
      obtain ⟨en, el, ed, ⟨eh, ep, eL, eX⟩, hE⟩ : ∃ n la de V, lastC ec0 (l.take k) = ⟨n, la, de, V⟩ := ⟨_, _, _, _, rfl⟩
      have hok := hrows.1
      have hn := hrows.2.1
      rw [hE] at hok hn HK
      simp only [EC.cells] at HK
      have hsm := OkC.small hok
      have hco : codeL ec0 (l.take (k + 1)) = codeL ec0 (l.take k) ++ [(encC ⟨en, el, ed, ⟨eh, ep, eL, eX⟩⟩ t v).1] := by rw [htake, codeL_snoc, hE]
      have hla : lastC ec0 (l.take (k + 1)) = (encC ⟨en, el, ed, ⟨eh, ep, eL, eX⟩⟩ t v).2 := by rw [htake, lastC_snoc, hE]
      have hri : mayC ⟨en, el, ed, ⟨eh, ep, eL, eX⟩⟩ t = 0 → RiseC ec0 (l.take (k + 1)) := fun hm => by
        rw [htake]
        exact HRi.out.snoc (by rw [hE]; exact (mayC_zero hok t).1 hm)
      have hnri : mayC ⟨en, el, ed, ⟨eh, ep, eL, eX⟩⟩ t ≠ 0 → ofC ec0 l = ([], ec0, mayC ⟨en, el, ed, ⟨eh, ep, eL, eX⟩⟩ t) := fun hm => by
        rw [(ofC_rise l ec0 ok0 (Int.le_refl _) (by show (0 : Int) + _ ≤ _; omega) HI.out).2 (fun hr => by
          have h1 := RiseC.take (k + 1) hr
          rw [htake] at h1
          have h2 := (RiseC.next h1).2
          rw [hE] at h2
          exact hm ((mayC_zero hok t).2 h2))]
        unfold mayC at hm ⊢
        rw [if_neg (by rw [hok.snd]; decide)] at hm ⊢
        split at hm
        · rename_i h3; rw [if_pos h3]
        · exact absurd rfl hm
      have henc := fun (W : World) (hW : Below w.heap.size w W) => cencode_any en el ed t eh ep eL eX v W hok.n hok.last hok.delta hsi.1 hok.prev hsm.1 hsm.2 hsi.2 (tabGo HT.out hW)
      have hml := (encC_length hok t hsi.2).2
      have HE := Lib.hid henc
      have Hco := Lib.hid hco
      have Hla := Lib.hid hla
      have Hri := Lib.hid hri
      have Hnri := Lib.hid hnri
      have Hcl := Lib.hid hcl
      have k0 : 0 ≤ (k : Int) := by omega
      have k1 : (k : Int) < l.length := by omega
      clear hs hrows htake hE hok hn hco hla hri hnri henc hcl hkl
      have C := HK.out.says
      simp only [sayAll, cellsSay, qB, qW, qO, qR, qC, qZ, Nat.reduceAdd, and_true, true_and] at C
      have hbx := HK.out.box #[.int .i64 t, .int .u64 v] 53
      have Hbx := Lib.hid hbx
      clear hbx
      go_wp2_with fail
      refine (HE.out _ (Hbx.out.top 6)).mono ?_
      clear HE C q1 q2
      rintro e w5 ⟨⟨A5, n5, c5, rfl, rfl, o5⟩, b5⟩
      by_cases hm : mayC ⟨en, el, ed, ⟨eh, ep, eL, eX⟩⟩ t = 0
      · have hone : oneC ⟨en, el, ed, ⟨eh, ep, eL, eX⟩⟩ t v = ((encC ⟨en, el, ed, ⟨eh, ep, eL, eX⟩⟩ t v).1, (encC ⟨en, el, ed, ⟨eh, ep, eL, eX⟩⟩ t v).2, 0) := by unfold oneC; rw [if_neg (by rw [hm]; simp)]
        rw [hone] at o5 ⊢
        obtain ⟨M, n1, t1, d1, ⟨th, tp, tl, tb⟩, hMT⟩ : ∃ M n1 t1 d1 T, encC ⟨en, el, ed, ⟨eh, ep, eL, eX⟩⟩ t v = (M, ⟨n1, t1, d1, T⟩) := ⟨_, _, _, _, _, rfl⟩
        have hco := Hco.out
        have hla := Hla.out
        have hri := Hri.out hm
        rw [hMT] at hco hla hml o5 ⊢
        simp only at hco hla hml o5 ⊢
        replace Hco := Lib.hid hco
        replace Hla := Lib.hid hla
        replace Hri := Lib.hid hri
        clear hone hMT hco hla hri Hnri hm
        have K5 := (((Hbx.out.go b5).own_ o5).box #[.slice A5 (pack M).length c5, .int .i64 M.length] 24).box #[.int .i64 n1, .int .i64 t1, .int .i64 d1, .bool th, .int .u64 tp, .int .u8 tl, .int .u8 tb] 48
        simp only [World.size_alloc] at K5 o5
        have z5 := b5.size
        simp only [World.size_alloc] at z5
        clear Hbx b5
        have HO5 := Lib.hid o5
        clear o5
        go_upto_region 9 with fail
        generalize hW5 : World.alloc _ _ = W5
        rw [hW5] at K5
        clear hW5
        have HK5 := Lib.hid K5
        clear K5
        obtain ⟨⟨x0, g0⟩, g1⟩ := OwnR.cells Tryd.eltBE (HK5.out.row 6) HCL.out.symm k 0 (by rw [HCL.out]; exact hlt) (by decide)
        obtain ⟨⟨x1, g2⟩, g3⟩ := OwnR.cells Tryd.eltBE (HK5.out.row 6) HCL.out.symm k 1 (by rw [HCL.out]; exact hlt) (by decide)
        replace g0 : W5.cell? ⟨w.heap.size + 1 + 1, k * 2, none⟩ = some x0 := g0
        replace g1 : W5.frozen? ⟨w.heap.size + 1 + 1, k * 2, none⟩ = false := g1
        have B0 := HK5.out.blk 0
        have B1 := HK5.out.blk 1
        have C := HK5.out.says
        simp only [sayAll, cellsSay, qB, qW, qO, qR, qC, qZ, Nat.reduceAdd, and_true, true_and] at C
        have dq : W5.cell? ⟨w5.heap.size, 0, none⟩ = some (.slice A5 (pack M).length c5) ∧ W5.cell? ⟨w5.heap.size, 1, none⟩ = some (.int .i64 M.length) ∧ W5.cell? ⟨w5.heap.size + 1, 0, none⟩ = some (.int .i64 n1) ∧ W5.cell? ⟨w5.heap.size + 1, 1, none⟩ = some (.int .i64 t1) ∧ W5.cell? ⟨w5.heap.size + 1, 2, none⟩ = some (.int .i64 d1) ∧ W5.cell? ⟨w5.heap.size + 1, 3, none⟩ = some (.bool th) ∧ W5.cell? ⟨w5.heap.size + 1, 4, none⟩ = some (.int .u64 tp) ∧ W5.cell? ⟨w5.heap.size + 1, 5, none⟩ = some (.int .u8 tl) ∧ W5.cell? ⟨w5.heap.size + 1, 6, none⟩ = some (.int .u8 tb) :=
          ⟨B1.cell 0, B1.cell 1, B0.cell 0, B0.cell 1, B0.cell 2, B0.cell 3, B0.cell 4, B0.cell 5, B0.cell 6⟩
        have hg3 : w.heap.size + 1 + 1 < w3.heap.size := (HK5.out.get 6 rfl).2.1 _ rfl
        have nf1 := fun (W : World) (i j : Nat) (u : Value) => World.cell?_setCell_far W ⟨w.heap.size + 1 + 1, i, none⟩ ⟨w5.heap.size, j, none⟩ u (by simp <;> omega)
        have nf2 := fun (W : World) (i j : Nat) (u : Value) => World.cell?_setCell_far W ⟨w.heap.size + 1 + 1, i, none⟩ ⟨w5.heap.size + 1, j, none⟩ u (by simp <;> omega)
        have nf3 := fun (W : World) (i j : Nat) (u : Value) => World.cell?_setCell_far W ⟨w3.heap.size, i, none⟩ ⟨w5.heap.size, j, none⟩ u (by simp <;> omega)
        have nf4 := fun (W : World) (i j : Nat) (u : Value) => World.cell?_setCell_far W ⟨w3.heap.size, i, none⟩ ⟨w5.heap.size + 1, j, none⟩ u (by simp <;> omega)
        have ndr : ∀ (W : World) (a : Addr), W.drew.cell? a = W.cell? a := fun _ _ => rfl
        clear B0 B1
        go_region_held3 (fun w' => w'.cell? ⟨w5.heap.size, 0, none⟩ = some (.slice A5 (pack M).length c5) ∧ w'.cell? ⟨w5.heap.size, 1, none⟩ = some (.int .i64 M.length) ∧ w'.cell? ⟨w5.heap.size + 1, 0, none⟩ = some (.int .i64 n1) ∧ w'.cell? ⟨w5.heap.size + 1, 1, none⟩ = some (.int .i64 t1) ∧ w'.cell? ⟨w5.heap.size + 1, 2, none⟩ = some (.int .i64 d1) ∧ w'.cell? ⟨w5.heap.size + 1, 3, none⟩ = some (.bool th) ∧ w'.cell? ⟨w5.heap.size + 1, 4, none⟩ = some (.int .u64 tp) ∧ w'.cell? ⟨w5.heap.size + 1, 5, none⟩ = some (.int .u8 tl) ∧ w'.cell? ⟨w5.heap.size + 1, 6, none⟩ = some (.int .u8 tb)) (first | (simp only [ndr]; with_reducible exact dq) | (simp only [ndr, nf1, nf2, nf3, nf4]; with_reducible exact dq)) (fail)
        go_wp2_with fail
        generalize hW : World.setCell _ _ _ = W6
        have hc4 := HK5.out.get 4 rfl
        have hst := CodesOk.step hc4.1 hc4.2 ((HK5.out.own 2).mono (show w3.heap.size + 1 ≤ wr.heap.size + 1 by omega)) hml (by rw [Hcl.out, HCL.out]; exact hlt)
        rw [Hcl.out, ← Hco.out] at hst
        have K6 := ((((((Qs.nil W5).cons (HK5.out.get 9 rfl)).cons (HK5.out.get 8 rfl)).cons (HK5.out.get 7 rfl)).cons (HK5.out.get 6 rfl)).cons (HK5.out.get 5 rfl)).cons (k := qC (w3.heap.size + 1) W5.heap.size _ _) ⟨hst, Nat.le_refl _⟩
        have hz5 : w3.heap.size + 1 ≤ W5.heap.size := (HK5.out.blk 5).lt
        have K7 := (K6.putRow Tryd.eltBE 2 (w.heap.size + 1 + 1) k (A5, (pack M).length, c5, (M.length : Int)) HCL.out.symm (by rw [HCL.out]; exact hlt) rfl (by simp only [apBut, apAll, qB, qW, qO, qR, qC, qZ, and_true]; omega)).putTo 1 w3.heap.size [(0, .int .i64 n1), (1, .int .i64 t1), (2, .int .i64 d1), (3, .bool th), (4, .int .u64 tp), (5, .int .u8 tl), (6, .int .u8 tb)] #[.int .i64 n1, .int .i64 t1, .int .i64 d1, .bool th, .int .u64 tp, .int .u8 tl, .int .u8 tb] hW (by simp only [List.set, apBut, apAll, qB, qW, qO, qR, qC, qZ, and_true]; omega)
        have HK7 := Lib.hid K7.drew
        clear C dq nf1 nf2 nf3 nf4 hW hst K6 K7 hc4 x0 x1 g0 g1 g2 g3
        go_roundw
        case measure => simp [intOf]; omega
        case rel =>
          refine ⟨k + 1, W5.heap.size, CL.set k (A5, (pack M).length, c5, (M.length : Int)), hlt, by rw [List.length_set]; exact HCL.out, by go_num, Hri, hz5, ?_⟩
          rw [Hla.out]
          exact HK7
      · have hone : oneC ⟨en, el, ed, ⟨eh, ep, eL, eX⟩⟩ t v = ([], ec0, mayC ⟨en, el, ed, ⟨eh, ep, eL, eX⟩⟩ t) := by unfold oneC; rw [if_pos hm]
        rw [hone] at o5 ⊢
        have hR := Hnri.out hm
        obtain ⟨ec, hec⟩ : ∃ ec, ec = mayC ⟨en, el, ed, ⟨eh, ep, eL, eX⟩⟩ t := ⟨_, rfl⟩
        rw [← HR.out, ← hec] at hR
        rw [← hec] at hm ⊢
        have HR2 := Lib.hid hR
        have K5 := ((Hbx.out.go b5).box #[.slice A5 (pack []).length c5, .int .i64 0] 24).box #[.int .i64 0, .int .i64 0, .int .i64 0, .bool false, .int .u64 0, .int .u8 0, .int .u8 0] 48
        have HK5 := Lib.hid K5
        have k2 : ((ec : Int) == 0) = false := beq_eq_false_iff_ne.2 (by omega)
        have k3 : ((ec : Int) != 0) = true := by simpa using hm
        have z8 := (HK.out.blk 3).lt
        have z5 := b5.size
        simp only [World.size_alloc] at z5
        clear K5 o5 b5 hone hec hR Hbx HR Hnri Hri Hla Hco hm
        have C := HK5.out.says
        simp only [sayAll, cellsSay, qB, qW, qO, qR, qC, qZ, Nat.reduceAdd, and_true, true_and] at C
        simp only [ec0, xv0]
        go_wp2_with fail
        generalize hW : World.setCell _ _ _ = W6
        have HK2 := Lib.hid (fin27 (.slice none 0 0) (.int .i64 0) (.int .i64 0) (.int .i64 0) (.int .i64 0) (.bool false) (.int .u64 0) (.int .u8 0) (.int .u8 0) ((((Qs.nil _).cons (HK5.out.get 8 rfl)).cons (HK5.out.get 6 rfl)).cons (HK5.out.get 7 rfl)) (by omega) (by omega) (by omega) hW)
        clear hW C
        have C := HK2.out.says
        simp only [sayAll, cellsSay, qB, qW, qO, qZ, List.set, Nat.reduceAdd, and_true] at C
        rw [HR2.out]
        refine bodyPost_ret (v := .tuple #[.agg #[.slice none 0 0, .int .i64 0], .agg #[.int .i64 0, .int .i64 0, .int .i64 0, .bool false, .int .u64 0, .int .u8 0, .int .u8 0], .int .u16 ec]) (by simp [results, Tryd.results24, go_sem, C]) rfl ⟨?_, HK2.out.top 2⟩
        refine ⟨none, 0, 0, (show 0 = (pack []).length from rfl), rfl, ?_⟩
        show OwnB _ _ _ (pack [])
        rw [packN0]
        exact OwnB.nil _ _
    · obtain rfl : k = l.length := by omega
      have htk : l.take l.length = l := List.take_length
      have hR := (ofC_rise l ec0 ok0 (Int.le_refl _) (by show (0 : Int) + _ ≤ _; omega) HI.out).1 (by have := HRi.out; rwa [htk] at this)
      rw [← HR.out] at hR
      obtain ⟨en, el, ed, ⟨eh, ep, eL, eX⟩, hE⟩ : ∃ n la de V, lastC ec0 l = ⟨n, la, de, V⟩ := ⟨_, _, _, _, rfl⟩
      have hHK := HK.out
      rw [htk, hE] at hHK
      simp only [EC.cells] at hHK
      have hbs := CodesOk.bsl (hHK.get 0 rfl).1 (hHK.row 2)
      obtain ⟨E, hEe⟩ : ∃ E, E = (codeL ec0 l).map fun M => (pack M, (M.length : Int)) := ⟨_, rfl⟩
      have hEl : E.length = l.length := by rw [hEe, List.length_map, codeL_length]
      have hEs : soundE E = true := by rw [hEe]; exact codeL_sound _
      obtain ⟨BS, hBS⟩ : ∃ BS, BS = codesC ec0 l := ⟨_, rfl⟩
      have hEc : catE E = BS := by rw [hEe, codeL_cat, hBS]
      have hok0 := (hHK.get 0 rfl).1
      have hE9 : ∀ e ∈ E, e.1.length ≤ 67108864 := by
        intro e he
        rw [hEe, List.mem_map] at he
        obtain ⟨M, hM, rfl⟩ := he
        obtain ⟨j, hj⟩ := List.getElem?_of_mem hM
        have := (hok0 j M hj).1
        rw [pack_length]
        unfold Go.Proofs.YtgnppnjhecfjeaaDoor.nb
        omega
      rw [← hEe] at hbs
      have hJ := join_okL (some ⟨w.heap.size + 1 + 1, 0, none⟩) l.length E wr hbs hEs (by omega) hE9
      rw [hEl, hEc] at hJ
      have hR2 : R = (BS, ⟨en, el, ed, ⟨eh, ep, eL, eX⟩⟩, 0) := by rw [hR, ← hBS, hE]
      have HR2 := Lib.hid hR2
      have HJ := Lib.hid hJ
      replace HK := Lib.hid hHK
      clear hR hR2 hE hHK hbs hEe hEl hEs hBS hEc hok0 hE9 hJ hrows hcl hkl htk HRi HR
      have C := HK.out.says
      simp only [sayAll, cellsSay, qB, qW, qO, qR, qC, qZ, Nat.reduceAdd, and_true, true_and] at C
      go_wp2_with fail
      refine HJ.out.mono ?_
      clear HJ
      rintro e w5 ⟨A5, c5, rfl, o5, b5⟩
      have K5 := ((HK.out.go b5).own_ o5).box #[.slice A5 (pack BS).length c5, .int .i64 BS.length] 24
      have z5 := b5.size
      have z8 := (HK.out.blk 3).lt
      clear C b5 o5
      go_upto_region 14 with fail
      generalize hW5 : World.alloc _ _ = W5
      rw [hW5] at K5
      clear hW5
      have HK5 := Lib.hid K5
      clear K5
      have C := HK5.out.says
      simp only [sayAll, cellsSay, qB, qW, qO, qR, qC, qZ, Nat.reduceAdd, and_true, true_and] at C
      have B0 := HK5.out.blk 0
      have B1 := HK5.out.blk 3
      have dq : W5.cell? ⟨w5.heap.size, 0, none⟩ = some (.slice A5 (pack BS).length c5) ∧ W5.cell? ⟨w5.heap.size, 1, none⟩ = some (.int .i64 BS.length) ∧ W5.cell? ⟨w3.heap.size, 0, none⟩ = some (.int .i64 en) ∧ W5.cell? ⟨w3.heap.size, 1, none⟩ = some (.int .i64 el) ∧ W5.cell? ⟨w3.heap.size, 2, none⟩ = some (.int .i64 ed) ∧ W5.cell? ⟨w3.heap.size, 3, none⟩ = some (.bool eh) ∧ W5.cell? ⟨w3.heap.size, 4, none⟩ = some (.int .u64 ep) ∧ W5.cell? ⟨w3.heap.size, 5, none⟩ = some (.int .u8 eL) ∧ W5.cell? ⟨w3.heap.size, 6, none⟩ = some (.int .u8 eX) :=
        ⟨B0.cell 0, B0.cell 1, B1.cell 0, B1.cell 1, B1.cell 2, B1.cell 3, B1.cell 4, B1.cell 5, B1.cell 6⟩
      have hg3 : w.heap.size + 1 + 1 < w3.heap.size := (HK5.out.get 4 rfl).2.1 _ rfl
      have nf1 := fun (W : World) (i j : Nat) (u : Value) => World.cell?_setCell_far W ⟨w.heap.size, i, none⟩ ⟨w5.heap.size, j, none⟩ u (by simp <;> omega)
      have nf2 := fun (W : World) (i j : Nat) (u : Value) => World.cell?_setCell_far W ⟨w.heap.size, i, none⟩ ⟨w3.heap.size, j, none⟩ u (by simp <;> omega)
      have nf3 := fun (W : World) (i j : Nat) (u : Value) => World.cell?_setCell_far W ⟨w.heap.size + 1, i, none⟩ ⟨w5.heap.size, j, none⟩ u (by simp <;> omega)
      have nf4 := fun (W : World) (i j : Nat) (u : Value) => World.cell?_setCell_far W ⟨w.heap.size + 1, i, none⟩ ⟨w3.heap.size, j, none⟩ u (by simp <;> omega)
      have ndr : ∀ (W : World) (a : Addr), W.drew.cell? a = W.cell? a := fun _ _ => rfl
      clear B0 B1
      go_region_held3 (fun w' => w'.cell? ⟨w5.heap.size, 0, none⟩ = some (.slice A5 (pack BS).length c5) ∧ w'.cell? ⟨w5.heap.size, 1, none⟩ = some (.int .i64 BS.length) ∧ w'.cell? ⟨w3.heap.size, 0, none⟩ = some (.int .i64 en) ∧ w'.cell? ⟨w3.heap.size, 1, none⟩ = some (.int .i64 el) ∧ w'.cell? ⟨w3.heap.size, 2, none⟩ = some (.int .i64 ed) ∧ w'.cell? ⟨w3.heap.size, 3, none⟩ = some (.bool eh) ∧ w'.cell? ⟨w3.heap.size, 4, none⟩ = some (.int .u64 ep) ∧ w'.cell? ⟨w3.heap.size, 5, none⟩ = some (.int .u8 eL) ∧ w'.cell? ⟨w3.heap.size, 6, none⟩ = some (.int .u8 eX)) (first | (simp only [ndr]; with_reducible exact dq) | (simp only [ndr, nf1, nf2, nf3, nf4]; with_reducible exact dq)) (fail)
      go_wp2_with fail
      generalize hW : World.setCell _ _ _ = W6
      have HK2 := Lib.hid (fin27t (.slice A5 (pack BS).length c5) (.int .i64 BS.length) (.int .i64 en) (.int .i64 el) (.int .i64 ed) (.bool eh) (.int .u64 ep) (.int .u8 eL) (.int .u8 eX) (((((Qs.nil W5).cons (HK5.out.get 1 rfl)).cons (HK5.out.get 7 rfl)).cons (HK5.out.get 5 rfl)).cons (HK5.out.get 6 rfl)) (by simp only [apAll, qO, qW, and_true]; omega) (by simp only [apAll, qO, qW, and_true]; omega) (by omega) hW)
      clear hW C dq nf1 nf2 nf3 nf4
      have C := HK2.out.says
      simp only [sayAll, cellsSay, qB, qW, qO, qZ, List.set, Nat.reduceAdd, and_true] at C
      rw [HR2.out]
      refine bodyPost_ret (v := .tuple #[.agg #[.slice A5 (pack BS).length c5, .int .i64 BS.length], .agg #[.int .i64 en, .int .i64 el, .int .i64 ed, .bool eh, .int .u64 ep, .int .u8 eL, .int .u8 eX], .int .u16 0]) (by simp [results, Tryd.results24, go_sem, C]) rfl ⟨?_, (HK2.out.top 2).drew⟩
      exact ⟨A5, _, c5, rfl, rfl, ((HK2.out.own 3).mono (by omega)).drew⟩

end Go.Proofs.YtgnppnjhecfjeaaDoor

/- Layer 6: what All and Ends read, and what is written. -/
namespace Go.Proofs.YtgnppnjhecfjeaaDoor

/-- readings of samples, from a place on -/
def rcS (a : Nat) (e : EC) : List (Int × Nat) → List RC
  | [] => []
  | s :: S => ⟨s.1, s.2, ((a + (encC e s.1 s.2).1.length : Nat) : Int), (encC e s.1 s.2).2, 0⟩ :: rcS (a + (encC e s.1 s.2).1.length) (encC e s.1 s.2).2 S
theorem rcS_good (S : List (Int × Nat)) : ∀ a e, ∀ x ∈ rcS a e S, x.c = 0 := by
  induction S with
  | nil => intro a e x h; cases h
  | cons s S ih =>
    intro a e x h
    rcases List.mem_cons.1 h with rfl | h
    · rfl
    · exact ih _ _ x h
theorem rcS_smp (S : List (Int × Nat)) : ∀ a e, (rcS a e S).map smpR = S := by
  induction S with
  | nil => intro a e; rfl
  | cons s S ih => intro a e; simp [rcS, smpR, ih]
theorem rcS_length (S : List (Int × Nat)) (a : Nat) (e : EC) : (rcS a e S).length = S.length := by
  have := congrArg List.length (rcS_smp S a e)
  simpa using this
theorem lastE_cons (x y : RC) (l : List RC) : lastE (x :: y :: l) = lastE (y :: l) := by simp [lastE, List.getLast?_cons_cons]
theorem rcS_last (S : List (Int × Nat)) : ∀ a e, S ≠ [] → lastE (rcS a e S) = lastC e S := by
  induction S with
  | nil => intro a e h; exact absurd rfl h
  | cons s S ih =>
    intro a e _
    cases S with
    | nil => rfl
    | cons u S =>
      have h := ih (a + (encC e s.1 s.2).1.length) (encC e s.1 s.2).2 (by simp)
      simp only [rcS] at h ⊢
      rw [lastE_cons, h]
      rfl
theorem rcS_last0 (S : List (Int × Nat)) (a : Nat) : lastE (rcS a ec0 S) = lastC ec0 S := by
  cases S with
  | nil => rfl
  | cons s S => exact rcS_last _ a ec0 (by simp)
theorem rcS_nd (S : List (Int × Nat)) : ∀ a e j, j < S.length → ((rcS a e S).map (·.nd))[j]? = some ((a + (codesC e (S.take (j + 1))).length : Nat) : Int) := by
  induction S with
  | nil => intro a e j h; simp at h
  | cons s S ih =>
    intro a e j h
    cases j with
    | zero => simp [rcS, codesC]
    | succ j =>
      have := ih (a + (encC e s.1 s.2).1.length) (encC e s.1 s.2).2 j (by simpa using h)
      simp only [rcS, List.map_cons, List.getElem?_cons_succ, this, List.take_succ_cons, codesC, List.length_append]
      congr 2
      omega

/-- what is written is read -/
theorem rdC_laid (l : List UInt8) (m : Nat) (S : List (Int × Nat)) : ∀ (f : Nat) (e : EC) (a : Nat), OkC e → 0 ≤ e.n → e.n + S.length ≤ 1000000 → InC S → RiseC e S → (bitl l m).drop a = codesC e S → a ≤ m → S.length ≤ f → rdC l m f e a = rcS a e S := by
  induction S with
  | nil =>
    intro f e a he hn hb hi hr h ha hf
    have hz : m ≤ a := by
      have := congrArg List.length h
      simp only [List.length_drop, bitl_length, codesC, List.length_nil] at this
      omega
    cases f with
    | zero => rfl
    | succ f => unfold rdC; rw [if_pos hz]; rfl
  | cons s S ih =>
    intro f e a he hn hb hi hr h ha hf
    obtain ⟨i1, i2⟩ := hi s List.mem_cons_self
    simp only [List.length_cons] at hb hf
    obtain ⟨r1, r2⟩ := hr
    obtain ⟨h1, h2, -⟩ := encC_ok he ⟨hn, by omega⟩ i1 i2
    have hl := encC_length he s.1 i2
    have hlen := congrArg List.length h
    simp only [List.length_drop, bitl_length, codesC, List.length_append] at hlen
    cases f with
    | zero => omega
    | succ f =>
      have hg : gotC l m e (a : Int) = ⟨s.1, s.2, ((a + (encC e s.1 s.2).1.length : Nat) : Int), (encC e s.1 s.2).2, 0⟩ := by
        unfold gotC
        rw [if_neg (by omega), Int.toNat_natCast, h]
        simp only [codesC]
        rw [decC_enc he i1 i2 r1]
        rfl
      unfold rdC
      rw [if_neg (by omega), hg]
      simp only [if_true, Int.toNat_natCast, rcS]
      rw [ih f _ (a + (encC e s.1 s.2).1.length) h1 (by omega) (by rw [h2]; omega) (fun x hx => hi x (List.mem_cons_of_mem _ hx)) r2 (by
        rw [← List.drop_drop, h]
        simp only [codesC, List.drop_left]) (by omega) (by omega)]

/-- what is read is written -/
theorem rdC_only (l : List UInt8) (m : Nat) : ∀ (f : Nat) (e : EC) (a : Nat), OkC e → 0 ≤ e.n → e.n + ((m - a : Nat) : Int) < 1000000 → a ≤ m → m ≤ a + f → (∀ x ∈ rdC l m f e a, x.c = 0) →
    ∃ S, rdC l m f e a = rcS a e S ∧ codesC e S = (bitl l m).drop a ∧ RiseC e S ∧ InC S
  | 0, e, a, he, hn, hb, ha, hf, hg => ⟨[], rfl, by rw [List.drop_eq_nil_of_le (by rw [bitl_length]; omega)]; rfl, trivial, fun s h => by cases h⟩
  | f + 1, e, a, he, hn, hb, ha, hf, hg => by
    unfold rdC at hg ⊢
    by_cases hz : m ≤ a
    · rw [if_pos hz]
      exact ⟨[], rfl, by rw [List.drop_eq_nil_of_le (by rw [bitl_length]; omega)]; rfl, trivial, fun s h => by cases h⟩
    · rw [if_neg hz] at hg ⊢
      have hc := hg _ List.mem_cons_self
      rw [if_pos hc] at hg ⊢
      have h0 := hc
      unfold gotC at h0
      rw [if_neg (by omega), Int.toNat_natCast] at h0
      cases hd : decC e ((bitl l m).drop a) with
      | none => rw [hd] at h0; simp [rc0] at h0
      | some p =>
        obtain ⟨t, v, k, e'⟩ := p
        have hgt : gotC l m e (a : Int) = ⟨t, v, ((a + k : Nat) : Int), e', 0⟩ := by
          unfold gotC
          rw [if_neg (by omega), Int.toNat_natCast, hd]
          rfl
        obtain ⟨k1, k2, k3, k4, k5, k6, k7⟩ := decC_only he hd
        rw [List.length_drop, bitl_length] at k1
        obtain ⟨h1, h2, -⟩ := encC_ok he ⟨hn, by omega⟩ k3 k4
        have c1 : (encC e t v).1 = ((bitl l m).drop a).take k := by rw [k2]
        have c2 : (encC e t v).2 = e' := by rw [k2]
        have c3 : (encC e t v).1.length = k := by rw [c1, List.length_take, List.length_drop, bitl_length]; omega
        rw [c2] at h1 h2
        rw [hgt] at hg ⊢
        dsimp only at hg ⊢
        rw [Int.toNat_natCast] at hg ⊢
        obtain ⟨S, s1, s2, s3, s4⟩ := rdC_only l m f e' (a + k) h1 (by omega) (by rw [h2]; omega) (by omega) (by omega) (fun x hx => hg x (List.mem_cons_of_mem _ hx))
        refine ⟨(t, v) :: S, ?_, ?_, ⟨k6, ?_⟩, ?_⟩
        · simp only [rcS, c2, c3, s1]
        · simp only [codesC, c1, c2, s2]
          rw [← List.drop_drop, List.take_append_drop]
        · show RiseC (encC e t v).2 S
          rw [c2]; exact s3
        · intro s hs
          rcases List.mem_cons.1 hs with rfl | hs
          · exact ⟨k3, k4⟩
          · exact s4 s hs

theorem allC_bad {l : List UInt8} {nb : Int} (h : soundB l nb = false) : allC l nb = ([], 11) := by unfold allC; rw [if_pos h]
/-- All of sound bits: samples that are laid just so, or none -/
theorem allC_cases {l : List UInt8} {m : Nat} (hs : soundB l (m : Int) = true) (hl : l.length ≤ 100000) :
    (∃ S, allC l (m : Int) = (rcS 0 ec0 S, 0) ∧ codesC ec0 S = bitl l m ∧ RiseC ec0 S ∧ InC S) ∨ allC l (m : Int) = ([], 61) := by
  obtain ⟨m', hm, hm8, -⟩ := sound_nat hs
  obtain rfl : m = m' := by omega
  by_cases hg : ∀ x ∈ rdsC l (m : Int), x.c = 0
  · have hrd : rdsC l (m : Int) = rdC l m m ec0 0 := by unfold rdsC; rw [if_neg (by rw [hs]; decide), Int.toNat_natCast]
    rw [all_done hg]
    rw [hrd] at hg ⊢
    obtain ⟨S, h1, h2, h3, h4⟩ := rdC_only l m m ec0 0 ok0 (Int.le_refl _) (by show (0 : Int) + _ < _; omega) (Nat.zero_le _) (by omega) hg
    exact .inl ⟨S, by rw [h1], by rw [h2, List.drop_zero], h3, h4⟩
  · right
    unfold allC
    rw [if_neg (by rw [hs]; decide)]
    first | rfl | rw [if_neg hg]
theorem allC_laid {S : List (Int × Nat)} (hi : InC S) (hr : RiseC ec0 S) (hl : S.length ≤ 1000) : allC (pack (codesC ec0 S)) (codesC ec0 S).length = (rcS 0 ec0 S, 0) := by
  have hs := sound_pack (codesC ec0 S)
  have h2 := rows_ok S ec0 ok0 (Int.le_refl _) (by show (0 : Int) + _ ≤ _; omega) hi
  have hrd : rdsC (pack (codesC ec0 S)) ((codesC ec0 S).length : Int) = rcS 0 ec0 S := by
    unfold rdsC
    rw [if_neg (by rw [hs]; decide), Int.toNat_natCast]
    exact rdC_laid _ _ S _ ec0 0 ok0 (Int.le_refl _) (by show (0 : Int) + _ ≤ _; omega) hi hr (by rw [List.drop_zero, bits_pack]) (Nat.zero_le _) (by omega)
  rw [all_done (by rw [hrd]; exact rcS_good S 0 ec0), hrd]

end Go.Proofs.YtgnppnjhecfjeaaDoor

/- Layer 6: the walk of ChunkOnly. -/
namespace Go.Proofs.YtgnppnjhecfjeaaDoor
open Go.RowKit
set_option maxRecDepth 100000

set_option maxHeartbeats 4000000 in
theorem chunkOnly_walk (A : Option Addr) (c : Nat) (l : List UInt8) (nb : Int) (w : World) (hb : Bs w A l) (hnb : in64 nb) (hl : l.length ≤ maxLen) (hT : Tab w) :
    Calls Tryd.prog 13 #[.agg #[.slice A l.length c, .int .i64 nb]] w fun e w' => e = .returned (.bool true) ∧ Below w.heap.size w w' := by
  have HT := Lib.hid hT
  have HB := Lib.hid hb
  clear hT hb
  unfold maxLen at hl
  have K := (Qs.zero w).box #[.slice A l.length c, .int .i64 nb] 24
  by_cases hlen : 600 < l.length
  · have hI : (600 : Int) < l.length := by omega
    have HK := Lib.hid K
    clear K
    go_enter Tryd.func13, Tryd.ntmps13
    go_wp2_with fail
    refine (cknown_any _ (tabGo HT.out (HK.out.top 1))).mono ?_
    rintro e w1 ⟨rfl, b1⟩
    go_wp2_with fail
    go_ret
    exact ⟨rfl, on1 (HK.out.top 1) b1⟩
  · have hI : ¬ (600 : Int) < l.length := by omega
    go_enter Tryd.func13, Tryd.ntmps13
    have HK := Lib.hid K
    clear K
    go_wp2_with fail
    refine (cknown_any _ (tabGo HT.out (HK.out.top 1))).mono ?_
    rintro e w1 ⟨rfl, b1⟩
    replace HK := Lib.hid (HK.out.go b1)
    clear b1
    have C := HK.out.says
    simp only [sayAll, cellsSay, qB, qW, qV, qO, qZ, Nat.reduceAdd, and_true, true_and] at C
    have hP1 := fun (W : World) (hW : Below w.heap.size w W) => call_any A c l nb W (HB.out.below hW) hnb (by omega) (tabGo HT.out hW)
    have hSd := fun (W : World) (hW : Below w.heap.size w W) => sound_any A c l nb W (HB.out.below hW) (by unfold in64 at hnb; exact hnb) (by unfold maxLen; omega)
    have HSd := Lib.hid hSd
    clear hSd
    cases hs : soundB l nb
    · rw [allC_bad hs] at hP1
      have HP1 := Lib.hid hP1
      rw [hs] at HSd
      clear hP1 hs
      go_wp2_with fail
      refine (HP1.out _ (HK.out.top 1)).mono ?_
      clear HP1 C
      rintro e w2 ⟨v, rfl, hv, b2⟩
      obtain ⟨A2, c2, rfl, -, h2⟩ := hv.row Tryd.eltS
      have K2 := (HK.out.go b2).box #[.int .i64 0, .int .i64 0, .int .i64 0, .bool false, .int .u64 0, .int .u8 0, .int .u8 0] 48
      replace HK := Lib.hid K2
      clear K2 hv b2 h2
      have C := HK.out.says
      simp only [sayAll, cellsSay, qB, qW, qV, qO, qZ, Nat.reduceAdd, and_true, true_and] at C
      simp only [List.map_nil, List.length_nil]
      rw [show lastE [] = ec0 from rfl]
      simp only [ec0, Int.ofNat_zero]
      go_wp2_with (go_at_call 36; refine (HSd.out _ (HK.out.top 2)).mono ?_; rintro e w3 ⟨rfl, b3⟩)
      replace HK := Lib.hid (HK.out.go b3)
      go_wp2_with fail
      go_ret
      exact ⟨by simp, HK.out.top 2⟩
    · obtain ⟨m, rfl, hm8, -⟩ := sound_nat hs
      have Hs := Lib.hid hs
      rcases allC_cases hs (by omega) with ⟨S, h1, h2, h3, h4⟩ | h1
      · rw [h1] at hP1
        have hle := allC_len (l := l) (nb := (m : Int)) (by omega)
        rw [h1] at hle
        have hle2 : S.length ≤ 2401 := by have := hle; dsimp only at this; rw [rcS_length] at this; omega
        have hof := (ofC_rise S ec0 ok0 (Int.le_refl _) (by show (0 : Int) + _ ≤ _; omega) h4).1 h3
        rw [h2] at hof
        have hrise := (RiseC_iff S h4 (by omega)).1 h3
        dsimp only at hP1
        simp only [rcS_smp, rcS_last0] at hP1
        obtain ⟨en, el, ed, ⟨eh, ep, eL, eX⟩, hE⟩ : ∃ n la de V, lastC ec0 S = ⟨n, la, de, V⟩ := ⟨_, _, _, _, rfl⟩
        rw [hE] at hof
        simp only [hE] at hP1
        have hpk := pack_bits hs
        have hO := fun (V : Option Addr) (d : Nat) (W : World) (hW : Below w.heap.size w W) (h : Ss W V S) => cof_anyL V d S W h (by omega) h4 (tabGo HT.out hW)
        simp only [hof, OutC, bitl_length, hpk] at hO
        have HP1 := Lib.hid hP1
        have HO := Lib.hid hO
        have Hrise := Lib.hid hrise
        clear hP1 hO hrise hof h1 h2 h3 h4 hE hle hs hpk
        go_wp2_with fail
        refine (HP1.out _ (HK.out.top 1)).mono ?_
        clear HP1 C
        rintro e w2 ⟨v, rfl, hv, b2⟩
        obtain ⟨A2, c2, rfl, -, -⟩ := hv.row Tryd.eltS
        have HS := Lib.hid ((hv.asRw Tryd.eltS).ss.below (below_alloc w2 (.cells #[.int .i64 en, .int .i64 el, .int .i64 ed, .bool eh, .int .u64 ep, .int .u8 eL, .int .u8 eX] 48)))
        have K2 := (HK.out.go b2).box #[.int .i64 en, .int .i64 el, .int .i64 ed, .bool eh, .int .u64 ep, .int .u8 eL, .int .u8 eX] 48
        clear hv
        go_wp2_with fail
        generalize hW2 : World.alloc _ _ = W2
        rw [hW2] at K2 HS
        replace HK := Lib.hid K2
        clear K2 b2 hW2
        go_loopw [6] (fun i wr => ∃ k : Nat, 1 ≤ k ∧ (k ≤ S.length ∨ k = 1) ∧ i = .int .i64 k ∧ Below W2.heap.size W2 wr)
          (fun i _ => S.length - (intOf i).toNat)
        case atStart => exact ⟨1, Nat.le_refl _, .inr rfl, rfl, Below.refl _ _⟩
        case round =>
          obtain ⟨k, hk1, hk2, rfl, hbel⟩ := hrel
          by_cases hlt : k < S.length
          · obtain ⟨j, hj⟩ : ∃ j, k = j + 1 := ⟨k - 1, by omega⟩
            have hjl : j < S.length := by omega
            obtain ⟨p, o, rfl, q1, -⟩ := (HS.out.below hbel) k S[k] (List.getElem?_eq_getElem hlt)
            obtain ⟨p', o', hV', r1, -⟩ := (HS.out.below hbel) j S[j] (List.getElem?_eq_getElem hjl)
            injection hV' with e1
            injection e1 with e1 e2 _
            subst e1; subst e2
            have hr : S[j].1 < S[k].1 := by
              have := Hrise.out j (by omega)
              simp only [← hj] at this
              exact this
            obtain ⟨tk, hk⟩ : ∃ t, t = S[k].1 := ⟨_, rfl⟩
            obtain ⟨tj, hjt⟩ : ∃ t, t = S[j].1 := ⟨_, rfl⟩
            rw [← hk] at q1 hr
            rw [← hjt] at r1 hr
            have hw : IntKind.i64.wrap ((k : Int) - 1) = (j : Int) := by rw [IntKind.wrap_i64]; omega
            have k0 : 0 ≤ (k : Int) := by omega
            have k1 : (k : Int) < S.length := by omega
            have j0 : 0 ≤ (j : Int) := by omega
            have j1 : (j : Int) < S.length := by omega
            have kd : decide (tk ≤ tj) = false := decide_eq_false (by omega)
            have Hj := Lib.hid hj
            clear hk hjt hj hk2
            go_wp2_with fail
            go_quiet (fail)
            go_wp2_with fail
            go_roundw
            case measure => simp [intOf]; omega
            case rel => exact ⟨k + 1, by omega, .inl hlt, by go_num, below_drewN hbel nq⟩
          · have kge : ¬ (k : Int) < S.length := by omega
            replace HK := Lib.hid (HK.out.go hbel)
            replace HS := Lib.hid (HS.out.below hbel)
            clear Hrise hlt hk1 hk2
            have C := HK.out.says
            simp only [sayAll, cellsSay, qB, qW, qV, qO, qZ, Nat.reduceAdd, and_true, true_and] at C
            go_wp2_with fail
            refine (HO.out A2 c2 _ (HK.out.top 2) HS.out).mono ?_
            clear HO C
            rintro e w4 ⟨⟨B1, n4, d4, rfl, rfl, o4⟩, b4⟩
            have K4 := (((HK.out.go b4).own_ o4).box #[.slice B1 l.length d4, .int .i64 m] 24).box #[.int .i64 en, .int .i64 el, .int .i64 ed, .bool eh, .int .u64 ep, .int .u8 eL, .int .u8 eX] 48
            simp only [World.size_alloc] at K4
            replace HK := Lib.hid K4
            clear K4 o4 b4
            have C := HK.out.says
            simp only [sayAll, cellsSay, qB, qW, qV, qO, qZ, Nat.reduceAdd, and_true, true_and] at C
            go_wp2_with fail
            trace_state
            refine (refSame_any A B1 c d4 l l _ _ _ (HB.out.below (HK.out.top 5)) (HK.out.own 2).bs).mono ?_
            rintro e w5 ⟨rfl, b5⟩
            replace HK := Lib.hid (HK.out.go b5)
            clear C
            go_wp2_with fail
            go_ret
            exact ⟨by simp, HK.out.top 5⟩
      · rw [h1] at hP1
        have HP1 := Lib.hid hP1
        rw [hs] at HSd
        clear hP1 hs h1
        go_wp2_with fail
        refine (HP1.out _ (HK.out.top 1)).mono ?_
        clear HP1 C
        rintro e w2 ⟨v, rfl, hv, b2⟩
        obtain ⟨A2, c2, rfl, -, h2⟩ := hv.row Tryd.eltS
        have K2 := (HK.out.go b2).box #[.int .i64 0, .int .i64 0, .int .i64 0, .bool false, .int .u64 0, .int .u8 0, .int .u8 0] 48
        replace HK := Lib.hid K2
        clear K2 hv b2 h2
        have C := HK.out.says
        simp only [sayAll, cellsSay, qB, qW, qV, qO, qZ, Nat.reduceAdd, and_true, true_and] at C
        simp only [List.map_nil, List.length_nil]
        rw [show lastE [] = ec0 from rfl]
        simp only [ec0, Int.ofNat_zero]
        go_wp2_with (go_at_call 36; refine (HSd.out _ (HK.out.top 2)).mono ?_; rintro e w3 ⟨rfl, b3⟩)
        replace HK := Lib.hid (HK.out.go b3)
        go_wp2_with fail
        go_ret
        exact ⟨by simp, HK.out.top 2⟩

end Go.Proofs.YtgnppnjhecfjeaaDoor

/- Contracts of package bit: Cut. -/
namespace Go.Proofs.YtgnppnjhecfjeaaDoor
open Go.RowKit

theorem cut_v1 (x : UInt8) (s : Nat) : ((x.toNat : Int) * 2 ^ s % 256) = ((x.toNat * 2 ^ s % 256 : Nat) : Int) := by
  rw [Int.natCast_emod, Int.natCast_mul, Int.natCast_pow]; rfl

/-- no byte follows -/
theorem cut_last {l : List UInt8} {a k : Nat} (h : a / 8 + k < l.length) (hn : ¬ a / 8 + k + 1 < l.length) : cutByte l (a / 8) (a % 8) k = (l[a / 8 + k]).toNat * 2 ^ (a % 8) % 256 := by
  unfold cutByte
  rw [List.getD_eq_getElem?_getD, List.getElem?_eq_getElem h, List.getD_eq_getElem?_getD, List.getElem?_eq_none (by omega)]
  simp

theorem cut_both {l : List UInt8} {a k : Nat} (h : a / 8 + k < l.length) (hn : a / 8 + k + 1 < l.length) :
    bits .or .u8 ((l[a / 8 + k].toNat : Int) * 2 ^ (a % 8) % 256) ((l[a / 8 + k + 1].toNat : Int) / 2 ^ (8 - a % 8)) = (cutByte l (a / 8) (a % 8) k : Int) := by
  rw [cut_v1, nat_shr, or_u8 _ _ (Nat.mod_lt _ (by decide)) (Nat.lt_of_le_of_lt (Nat.div_le_self _ _) (UInt8.toNat_lt _))]
  unfold cutByte
  rw [List.getD_eq_getElem?_getD, List.getElem?_eq_getElem h, List.getD_eq_getElem?_getD, List.getElem?_eq_getElem hn]
  rfl

theorem cut_b1 (x : UInt8) (s : Nat) : Value.int .u8 ((x.toNat : Int) * 2 ^ s % 256) = bv (UInt8.ofNat (x.toNat * 2 ^ s % 256)) := by
  rw [cut_v1, bv, UInt8.toNat_ofNat_of_lt' (Nat.mod_lt _ (by decide))]
theorem cut_b2 {l : List UInt8} {a k : Nat} (h : a / 8 + k < l.length) (hn : a / 8 + k + 1 < l.length) :
    Value.int .u8 (bits .or .u8 ((l[a / 8 + k].toNat : Int) * 2 ^ (a % 8) % 256) ((l[a / 8 + k + 1].toNat : Int) / 2 ^ (8 - a % 8))) = bv (UInt8.ofNat (cutByte l (a / 8) (a % 8) k)) := by
  rw [cut_both h hn, bv, UInt8.toNat_ofNat_of_lt' (cutByte_lt _ _ _ _)]
theorem OwnB.set2 {w : World} {base g n cap : Nat} {l : List UInt8} (h : OwnB w base (.slice (some ⟨g, 0, none⟩) n cap) l) (i : Nat) (x y : UInt8) :
    OwnB ((w.setCell ⟨g, i, none⟩ (bv x)).setCell ⟨g, i, none⟩ (bv y)) base (.slice (some ⟨g, 0, none⟩) n cap) (l.set i y) := by
  have := (h.set i x).set i y
  rwa [List.set_set] at this
theorem mask_valF (x : UInt8) (u : Nat) : Value.int .u8 (bits .and .u8 (x.toNat : Int) (255 * 2 ^ (8 - u) % 256)) = bv (UInt8.ofNat (maskByte x u)) := by
  have e : ((255 : Int) * 2 ^ (8 - u) % 256) = ((255 * 2 ^ (8 - u) % 256 : Nat) : Int) := by rw [Int.natCast_emod, Int.natCast_mul, Int.natCast_pow]; rfl
  rw [e, (bits_nat .u8 8 (by decide) (fun n h0 h1 => wraps_u8 n h0 h1) x.toNat _ x.toNat_lt (Nat.mod_lt _ (by decide))).1, bv, UInt8.toNat_ofNat_of_lt' (maskByte_lt _ _)]
  rfl

theorem bytesOf_of (d : Int) (n : Nat) (hd : d = n) (w : World) (hn : n ≤ 9223372036854775807) :
    Calls Tryd.prog 61 #[.int .i64 d] w fun e w' => e = .returned (.int .i64 (nb n)) ∧ w = w' := by
  subst hd; exact bytesOf_any n w (by omega)

set_option maxHeartbeats 2000000 in
theorem cut_ok (A : Option Addr) (c : Nat) (l : List UInt8) (m a b : Nat) (w : World) (hb : Bs w A l) (hl : l.length ≤ 1099511627776) (hs : soundB l m = true) (hab : a ≤ b) (hbm : b ≤ m) :
    Calls Tryd.prog 37 #[.agg #[.slice A l.length c, .int .i64 m], .int .i64 a, .int .i64 b] w fun e w' =>
      ∃ A' c', e = .returned (.tuple #[.agg #[.slice A' (pack (cutl l a (b - a))).length c', .int .i64 ((b - a : Nat) : Int)], .int .u16 0]) ∧ OwnB w' w.heap.size (.slice A' (pack (cutl l a (b - a))).length c') (pack (cutl l a (b - a))) ∧ Below w.heap.size w w' := by
  have hb0 := hb.below (below_alloc2 w (.cells #[.slice A l.length c, .int .i64 m] 24) (.cells #[.slice none 0 0, .int .i64 0] 24))
  obtain ⟨m', hm, hm8, -⟩ := sound_nat hs
  obtain rfl : m = m' := by omega
  have hlm : l.length ≤ maxLen := by unfold maxLen; omega
  obtain ⟨n, hn⟩ : ∃ n : Nat, n = b - a := ⟨_, rfl⟩
  have hnI : (b : Int) - a = (n : Int) := by omega
  obtain ⟨N, hN⟩ : ∃ N, N = nb n := ⟨_, rfl⟩
  have hN8 : n ≤ 8 * N ∧ 8 * N ≤ n + 7 := by rw [hN]; unfold nb; omega
  have hplen : (pack (cutl l a n)).length = N := by rw [pack_length, cutl_length, hN]
  have hNl : N ≤ l.length := by omega
  rw [← hn]
  have HP := Lib.hid hplen
  have HN := Lib.hid hN
  have Hn := Lib.hid hnI
  have HS := Lib.hid hs
  have hidx : ∀ k, k < N → a / 8 + k < l.length := fun k hk => by omega
  have HI := Lib.hid hidx
  clear hs hm hnI hN hplen hidx hn
  have h1 : decide ((a : Int) < 0) = false := by simp
  have h2 : decide (b < a) = false := by simp; omega
  have h3 : decide (m < b) = false := by simp; omega
  go_enter Tryd.func37, Tryd.ntmps37
  go_wp2_with (go_at_call 36; refine (sound_any A c l m _ hb0 (by omega) hlm).mono ?_; rw [HS.out]; rintro e w1 ⟨rfl, hb1⟩; obtain ⟨c0, c1, r0, r1, f0, f1, hsz⟩ := kept2 hb1 (by simp))
  rw [Hn.out]
  refine (bytesOf_of _ n rfl _ (by omega)).mono ?_
  rw [← HN.out]
  rintro e w2 ⟨rfl, rfl⟩
  go_wp2_with (at_make; go_must (refine mkB _ rfl (.tmp 36) (.tmp 36) rfl (w.heap.size + 2) N rfl rfl (by omega) hsz ?_); intro w3 hown3 hb3; clear c0 c1 r0 r1 f0 f1; have hb13 := hb1.trans (hb3.mono (by simpa using hsz)); obtain ⟨c0, c1, r0, r1, f0, f1, hsz3⟩ := kept2 hb13 (by simp))
  have hgw : w.heap.size + 2 ≤ w1.heap.size := hsz
  go_wp2
  go_loopw [44] (fun q wr => ∃ (k : Nat) (bb : List UInt8), k ≤ N ∧ q = .int .i64 k ∧ OwnB wr (w.heap.size + 2) (.slice (some ⟨w1.heap.size, 0, none⟩) N N) bb ∧ Hid (CutAt l a N k bb) ∧
      Below (w.heap.size + 2) ((w.alloc (.cells #[.slice A l.length c, .int .i64 m] 24)).alloc (.cells #[.slice none 0 0, .int .i64 0] 24)) wr)
    (fun q _ => N - (intOf q).toNat)
  case atStart => exact ⟨0, _, Nat.zero_le _, rfl, hown3, CutAt.zero l a N, by simpa using hb13⟩
  case round =>
    obtain ⟨k, bb, hk, rfl, hown, HC, hbel⟩ := hrel
    clear c0 c1 r0 r1 f0 f1 hsz3 hown3 hb3 hb13
    obtain ⟨c0, c1, r0, r1, f0, f1, hszr⟩ := kept2 hbel (by omega)
    have hbl := HC.out.1
    have hblN : N ≤ bb.length := by omega
    clear hbl
    by_cases hlt : k < N
    · have hki := HI.out k hlt
      obtain ⟨p, o, rfl, hpl, hc⟩ := hb.at_ (show 0 < l.length by omega)
      have hcw : ∀ j (hj : j < l.length), wr.cell? ⟨p, o + j, none⟩ = some (bv l[j]) := fun j hj => by
        rw [hbel.cell (show p < w.heap.size + 2 by omega), World.cell?_alloc_lt _ _ _ (by simp; omega), World.cell?_alloc_lt _ _ _ hpl]
        exact hc j hj
      have hc1 := hcw _ hki
      have hx := hown.cell k (by omega)
      have hfr := hown.frozen k
      have fx0 := fun (W : World) (u : Value) => World.cell?_setCell_other W ⟨w1.heap.size, k, none⟩ ⟨w.heap.size, 0, none⟩ u (by intro e; injection e with e; omega)
      have fx1 := fun (W : World) (u : Value) => World.cell?_setCell_other W ⟨w1.heap.size, k, none⟩ ⟨w.heap.size, 1, none⟩ u (by intro e; injection e with e; omega)
      have fp := fun (W : World) (u : Value) (j : Nat) => World.cell?_setCell_other W ⟨w1.heap.size, k, none⟩ ⟨p, j, none⟩ u (by intro e; injection e with e; omega)
      have hkI : (a : Int) / 8 + k < l.length := by omega
      by_cases hn : a / 8 + k + 1 < l.length
      · have hnI : (a : Int) / 8 + k + 1 < l.length := by omega
        have hc2 := hcw _ hn
        clear hcw hc
        go_wp2
        go_region
        go_wp2
        go_roundw
        case measure => simp [intOf]; omega
        case rel =>
          rw [cut_b1, cut_b2 hki hn]
          exact ⟨k + 1, _, by omega, by go_num, (hown.set2 _ _ _).drew, HC.out.step hlt, ((hbel.setCell (show w.heap.size + 2 ≤ w1.heap.size from hgw) _).setCell (show w.heap.size + 2 ≤ w1.heap.size from hgw) _).drew⟩
      · have hnI : ¬ (a : Int) / 8 + k + 1 < l.length := by omega
        clear hcw hc
        go_wp2
        go_roundw
        case measure => simp [intOf]; omega
        case rel =>
          rw [cut_b1, ← cut_last hki hn]
          exact ⟨k + 1, _, by omega, by go_num, hown.set _ _, HC.out.step hlt, hbel.setCell (show w.heap.size + 2 ≤ w1.heap.size from hgw) _⟩
    · have hkN : N ≤ k := by omega
      by_cases h8 : n % 8 = 0
      · have hg8 : (((n : Int) % 8) != 0) = false := by simp; omega
        go_wp2
        obtain rfl : k = N := by omega
        have e : bb = pack (cutl l a n) := by have h := HC.out; rw [HN.out] at h; exact cut_even h h8
        refine bodyPost_ret (v := .tuple #[.agg #[.slice (some ⟨w1.heap.size, 0, none⟩) k k, .int .i64 n], .int .u16 0]) (by simp [results, Tryd.results37, go_sem, r0, r1]) rfl ?_
        rw [HP.out, ← e]
        have hne := hown.ne (show w.heap.size + 1 < w.heap.size + 2 by omega)
        exact ⟨_, _, rfl, ((hown.mono (by omega)).far hne _).far hne _, (((below_alloc2 _ _ _).trans (hbel.mono (by simp))).setCell (by simp) _).setCell (by simp) _⟩
      · have hg8 : (((n : Int) % 8) != 0) = true := by simp; omega
        have hN0 : 0 < N := by omega
        have hx := hown.cell (N - 1) (by omega)
        have hfr := hown.frozen (N - 1)
        obtain rfl : k = N := by omega
        have e : bb.set (k - 1) (UInt8.ofNat (maskByte bb[k - 1] (n % 8))) = pack (cutl l a n) := by
          have h := HC.out
          rw [HN.out] at h
          have h2 := cut_odd h h8 (bb[k - 1]'(by omega)) (by rw [← HN.out]; exact List.getElem?_eq_getElem (by omega))
          rwa [← HN.out] at h2
        have HE := Lib.hid e
        clear e
        go_wp2
        go_region
        go_wp2
        rw [mask_valF]
        have hne := hown.ne (show w.heap.size + 1 < w.heap.size + 2 by omega)
        have fx0 := fun (W : World) (u : Value) => World.cell?_setCell_other W ⟨w1.heap.size, k - 1, none⟩ ⟨w.heap.size + 1, 0, none⟩ u (by intro e; injection e with e; omega)
        refine bodyPost_ret (v := .tuple #[.agg #[.slice (some ⟨w1.heap.size, 0, none⟩) k k, .int .i64 n], .int .u16 0]) (by simp [results, Tryd.results37, go_sem, r0, r1]) rfl ?_
        rw [HP.out, ← HE.out]
        have ho := (hown.set (k - 1) (UInt8.ofNat (maskByte bb[k - 1] (n % 8)))).drew
        have hne2 := ho.ne (show w.heap.size + 1 < w.heap.size + 2 by omega)
        exact ⟨_, _, rfl, ((ho.mono (by omega)).far hne2 _).far hne2 _, (((below_alloc2 _ _ _).trans ((hbel.setCell (show w.heap.size + 2 ≤ w1.heap.size from hgw) _).drew.mono (by simp))).setCell (by simp) _).setCell (by simp) _⟩

set_option maxHeartbeats 1000000 in
theorem cut_err (A : Option Addr) (c : Nat) (l : List UInt8) (n a b : Int) (w : World) (hb : Bs w A l) (hn : -9223372036854775808 ≤ n ∧ n ≤ 9223372036854775807) (hl : l.length ≤ 1099511627776)
    (ha : -9223372036854775808 ≤ a ∧ a ≤ 9223372036854775807) (hwd : -9223372036854775808 ≤ b ∧ b ≤ 9223372036854775807) (k : Nat) (hk : (cutSpec l n a b).2.2 = k) (hk0 : k ≠ 0) :
    Calls Tryd.prog 37 #[.agg #[.slice A l.length c, .int .i64 n], .int .i64 a, .int .i64 b] w fun e w' =>
      ∃ A' c', e = .returned (.tuple #[.agg #[.slice A' 0 c', .int .i64 0], .int .u16 k]) ∧ OwnB w' w.heap.size (.slice A' 0 c') [] ∧ Below w.heap.size w w' := by
  have hb0 := hb.below (below_alloc2 w (.cells #[.slice A l.length c, .int .i64 n] 24) (.cells #[.slice none 0 0, .int .i64 0] 24))
  by_cases hs : soundB l n = false
  · obtain rfl : k = 11 := by rw [← hk]; simp [cutSpec, hs]
    have HS := Lib.hid hs
    clear hs hk
    go_enter Tryd.func37, Tryd.ntmps37
    go_wp2_with (go_at_call 36; refine (sound_any A c l n _ hb0 hn (by unfold maxLen; omega)).mono ?_; rw [HS.out]; rintro e w1 ⟨rfl, hb1⟩; obtain ⟨c0, c1, r0, r1, f0, f1, hsz⟩ := kept2 hb1 (by simp))
    refine bodyPost_ret (v := .tuple #[.agg #[.slice none 0 0, .int .i64 0], .int .u16 11]) (by simp [results, Tryd.results37, go_sem, r0, r1]) rfl ?_
    exact ⟨_, _, rfl, OwnB.nil _ _, (((below_alloc2 _ _ _).trans (hb1.mono (by simp; omega))).setCell (by simp) _).setCell (by simp) _⟩
  · have HS := Lib.hid (show soundB l n = true by simpa using hs)
    have he : a < 0 ∨ b < a ∨ n < b := by
      apply Classical.byContradiction; intro he
      exact hk0 (by rw [← hk]; simp [cutSpec, hs, he])
    obtain rfl : k = 10 := by rw [← hk]; simp [cutSpec, hs, he]
    obtain ⟨m, rfl, hm8, -⟩ := sound_nat (show soundB l n = true by simpa using hs)
    clear hs hk
    have key : ∀ q q', decide (a < 0) = q → decide (b < a) = q' → (q = false → q' = false → (m : Int) < b) → 
        Calls Tryd.prog 37 #[.agg #[.slice A l.length c, .int .i64 m], .int .i64 a, .int .i64 b] w fun e w' =>
          ∃ A' c', e = .returned (.tuple #[.agg #[.slice A' 0 c', .int .i64 0], .int .u16 (10 : Nat)]) ∧ OwnB w' w.heap.size (.slice A' 0 c') [] ∧ Below w.heap.size w w' := by
      intro q q' h1 h2 h3
      cases q <;> cases q'
      all_goals
        try have hg := h3 rfl rfl
        clear h3 he
        go_enter Tryd.func37, Tryd.ntmps37
        go_wp2_with (go_at_call 36; refine (sound_any A c l m _ hb0 hn (by unfold maxLen; omega)).mono ?_; rw [HS.out]; rintro e w1 ⟨rfl, hb1⟩; obtain ⟨c0, c1, r0, r1, f0, f1, hsz⟩ := kept2 hb1 (by simp))
        refine bodyPost_ret (v := .tuple #[.agg #[.slice none 0 0, .int .i64 0], .int .u16 10]) (by simp [results, Tryd.results37, go_sem, r0, r1]) rfl ?_
        exact ⟨_, _, rfl, OwnB.nil _ _, (((below_alloc2 _ _ _).trans (hb1.mono (by simp; omega))).setCell (by simp) _).setCell (by simp) _⟩
    exact key _ _ rfl rfl (by simp; omega)

theorem cut_any (A : Option Addr) (c : Nat) (l : List UInt8) (n a b : Int) (w : World) (hb : Bs w A l) (hn : -9223372036854775808 ≤ n ∧ n ≤ 9223372036854775807) (hl : l.length ≤ 1099511627776)
    (ha : -9223372036854775808 ≤ a ∧ a ≤ 9223372036854775807) (hwd : -9223372036854775808 ≤ b ∧ b ≤ 9223372036854775807) :
    Calls Tryd.prog 37 #[.agg #[.slice A l.length c, .int .i64 n], .int .i64 a, .int .i64 b] w fun e w' =>
      ∃ A' c', e = .returned (.tuple #[.agg #[.slice A' (cutSpec l n a b).1.length c', .int .i64 (cutSpec l n a b).2.1], .int .u16 (cutSpec l n a b).2.2]) ∧ OwnB w' w.heap.size (.slice A' (cutSpec l n a b).1.length c') (cutSpec l n a b).1 ∧ Below w.heap.size w w' := by
  by_cases h0 : (cutSpec l n a b).2.2 = 0
  · unfold cutSpec at h0
    split at h0
    · simp at h0
    · split at h0
      · simp at h0
      · rename_i hs he
        obtain ⟨m, rfl, hm8, -⟩ := sound_nat (show soundB l n = true by simpa using hs)
        obtain ⟨a, rfl⟩ := Int.eq_ofNat_of_zero_le (show 0 ≤ a by omega)
        obtain ⟨b, rfl⟩ := Int.eq_ofNat_of_zero_le (show 0 ≤ b by omega)
        rw [show cutSpec l m a b = (pack (cutl l a (b - a)), b - a, 0) from by simp only [cutSpec, if_neg hs, if_neg he, Int.toNat_natCast, show ((b : Int) - a).toNat = b - a by omega]]
        exact cut_ok A c l m a b w hb hl (by simpa using hs) (by omega) (by omega)
  · have h1 : cutSpec l n a b = ([], 0, (cutSpec l n a b).2.2) := by
      unfold cutSpec at h0 ⊢
      split
      · rfl
      · split
        · rfl
        · rename_i hs he; simp [hs, he] at h0
    have h2 := cut_err A c l n a b w hb hn hl ha hwd _ rfl h0
    rw [h1]
    exact h2

end Go.Proofs.YtgnppnjhecfjeaaDoor

/- Layer 6: the walk of ChunkFronts. -/
namespace Go.Proofs.YtgnppnjhecfjeaaDoor
open Go.RowKit
set_option maxRecDepth 100000

theorem cnt_lt {s : List (Int × Nat)} (hi : InC s) (hl : s.length ≤ 1000) {i j : Nat} (hij : i < j) (hj : j ≤ s.length) : (codesC ec0 (s.take i)).length < (codesC ec0 (s.take j)).length := by
  have e : s.take j = s.take i ++ (s.take j).drop i := by
    have := (List.take_append_drop i (s.take j)).symm
    rwa [List.take_take, Nat.min_eq_left (by omega)] at this
  have h1 := rows_ok (s.take i) ec0 ok0 (Int.le_refl _) (by rw [List.length_take]; show (0 : Int) + _ ≤ _; omega) (fun x hx => hi x (List.mem_of_mem_take hx))
  have hn : (lastC ec0 (s.take i)).n = ((min i s.length : Nat) : Int) := by rw [h1.2.1, List.length_take]; show (0 : Int) + _ = _; omega
  have h2 := rows_ok ((s.take j).drop i) (lastC ec0 (s.take i)) h1.1 (by rw [hn]; omega) (by rw [hn, List.length_drop, List.length_take]; omega) (fun x hx => hi x (List.mem_of_mem_take (List.mem_of_mem_drop hx)))
  rw [e, codesC_app, List.length_append]
  have := h2.2.2.2
  rw [List.length_drop, List.length_take] at this
  omega
theorem front_all {s : List (Int × Nat)} (hi : InC s) (hr : RiseC ec0 s) (hl : s.length ≤ 1000) {at_ j : Nat} (hj : j ≤ s.length) (he : (codesC ec0 (s.take j)).length = at_) : allC (pack ((codesC ec0 s).take at_)) (at_ : Int) = (rcS 0 ec0 (s.take j), 0) := by
  have e : codesC ec0 s = codesC ec0 (s.take j) ++ codesC (lastC ec0 (s.take j)) (s.drop j) := by rw [← codesC_app, List.take_append_drop]
  rw [e, ← he, List.take_left]
  exact allC_laid (fun x hx => hi x (List.mem_of_mem_take hx)) (RiseC.take j hr) (by rw [List.length_take]; omega)
theorem front_none {s : List (Int × Nat)} (hi : InC s) (hr : RiseC ec0 s) (hl : s.length ≤ 1000) {at_ : Nat} (ha : at_ ≤ (codesC ec0 s).length) (hno : ∀ j, j ≤ s.length → (codesC ec0 (s.take j)).length ≠ at_) : allC (pack ((codesC ec0 s).take at_)) (at_ : Int) = ([], 61) := by
  have hlen : ((codesC ec0 s).take at_).length = at_ := by rw [List.length_take]; omega
  have hs := sound_pack ((codesC ec0 s).take at_)
  rw [hlen] at hs
  have h2 := rows_ok s ec0 ok0 (Int.le_refl _) (by show (0 : Int) + _ ≤ _; omega) hi
  rcases allC_cases hs (by rw [pack_length, hlen]; unfold Go.Proofs.YtgnppnjhecfjeaaDoor.nb; omega) with ⟨S, h1, h3, h4, h5⟩ | h
  · exfalso
    have hb := bits_pack ((codesC ec0 s).take at_)
    rw [hlen] at hb
    rw [hb] at h3
    obtain ⟨m, hm⟩ := codesC_front S ec0 s ((codesC ec0 s).drop at_) ok0 (Int.le_refl _) (by show (0 : Int) + _ ≤ _; omega) hi h5 hr h4 (by rw [h3, List.take_append_drop])
    refine hno S.length (by rw [hm, List.length_append]; omega) ?_
    rw [hm, List.take_left, h3, hlen]
  · exact h
def jv (j0 k : Nat) : Int := if j0 ≤ k then (j0 : Int) else -1
/-- where a cut falls -/
theorem where_cut {s : List (Int × Nat)} (hi : InC s) (hr : RiseC ec0 s) (hl : s.length ≤ 1000) {at_ : Nat} (ha : at_ ≤ (codesC ec0 s).length) :
    ∃ j0, j0 ≤ s.length + 1 ∧ (∀ j, j ≤ s.length → ((codesC ec0 (s.take j)).length = at_ ↔ j = j0)) ∧ (at_ = 0 ↔ j0 = 0) ∧
      (j0 ≤ s.length → allC (pack ((codesC ec0 s).take at_)) (at_ : Int) = (rcS 0 ec0 (s.take j0), 0)) ∧ (s.length < j0 → allC (pack ((codesC ec0 s).take at_)) (at_ : Int) = ([], 61)) := by
  have inj : ∀ i j, i ≤ s.length → j ≤ s.length → (codesC ec0 (s.take i)).length = (codesC ec0 (s.take j)).length → i = j := fun i j h1 h2 h => by
    rcases Nat.lt_trichotomy i j with h3 | h3 | h3
    · have := cnt_lt hi hl h3 h2; omega
    · exact h3
    · have := cnt_lt hi hl h3 h1; omega
  have z : (codesC ec0 (s.take 0)).length = 0 := by simp [codesC]
  by_cases h : ∃ j, j ≤ s.length ∧ (codesC ec0 (s.take j)).length = at_
  · obtain ⟨j0, h1, h2⟩ := h
    refine ⟨j0, by omega, fun j hj => ⟨fun e => inj j j0 hj h1 (e.trans h2.symm), fun e => by rw [e, h2]⟩, ⟨fun e => inj j0 0 h1 (Nat.zero_le _) (by rw [h2, z, e]), fun e => by rw [← h2, e, z]⟩, fun _ => front_all hi hr hl h1 h2, fun h3 => by omega⟩
  · refine ⟨s.length + 1, Nat.le_refl _, fun j hj => ⟨fun e => absurd ⟨j, hj, e⟩ h, fun e => by omega⟩, ⟨fun e => absurd ⟨0, Nat.zero_le _, by rw [z, e]⟩ h, fun e => by omega⟩, fun h3 => by omega, fun _ => front_none hi hr hl ha (fun j hj e => h ⟨j, hj, e⟩)⟩

set_option maxHeartbeats 4000000 in
theorem chunkFronts_walk (V : Option Addr) (c : Nat) (l : List (Int × Nat)) (kk : Int) (w : World) (hV : Ss w V l) (hl : l.length ≤ maxLen) (hi : InC l) (hkk : in64 kk) (hT : Tab w) :
    Calls Tryd.prog 14 #[.slice V l.length c, .int .i64 kk] w fun e w' => e = .returned (.bool true) ∧ Below w.heap.size w w' := by
  have hmx : Tryd.prog.follows .mixedOrders = true := by kernel_rfl
  have HT := Lib.hid hT
  have HV := Lib.hid hV
  have HI := Lib.hid hi
  clear hT hV hi
  unfold maxLen at hl
  unfold in64 at hkk
  by_cases hlen : 30 < l.length
  · have hI : (30 : Int) < l.length := by omega
    go_enter Tryd.func14, Tryd.ntmps14
    go_wp2_with fail
    refine (cknown_any _ HT.out).mono ?_
    rintro e w1 ⟨rfl, b1⟩
    go_wp2_with fail
    go_ret
    exact ⟨rfl, b1⟩
  · have hI : ¬ (30 : Int) < l.length := by omega
    have HK := Lib.hid (Qs.zero w)
    go_enter Tryd.func14, Tryd.ntmps14
    go_wp2_with fail
    refine (cknown_any _ HT.out).mono ?_
    rintro e w1 ⟨rfl, b1⟩
    replace HK := Lib.hid (HK.out.go b1)
    clear b1
    go_wp2_with fail
    refine (crising_any V c l w1 (HV.out.below (HK.out.top 0)) HI.out (by omega)).mono ?_
    rintro e w2 ⟨A1, c1, rfl, S1, hc1, b2⟩
    have hr := rsL_ok l HI.out
    have hl1 := rsL_length l
    obtain ⟨S, hS⟩ : ∃ S, S = rsL l := ⟨_, rfl⟩
    rw [← hS] at S1 hc1 hr hl1 ⊢
    have HS := Lib.hid S1
    have HR := Lib.hid hr.1
    have HIS := Lib.hid hr.2
    replace HK := Lib.hid ((HK.out.go b2).cons (k := qW w2 w2.heap.size (Nat.le_refl _)) ⟨Below.refl _ _, Nat.le_refl _⟩)
    have hrk := rows_ok S ec0 ok0 (Int.le_refl _) (by show (0 : Int) + _ ≤ _; omega) hr.2
    have e1 := (ofC_rise S ec0 ok0 (Int.le_refl _) (by show (0 : Int) + _ ≤ _; omega) hr.2).1 hr.1
    have hal := allC_laid hr.2 hr.1 (by omega)
    obtain ⟨M, hM⟩ : ∃ M, M = codesC ec0 S := ⟨_, rfl⟩
    have hMl : M.length ≤ 4380 := by rw [hM]; have := hrk.2.2.1; omega
    rw [← hM] at e1 hal
    obtain ⟨en, el, ed, ⟨eh, ep, eL, eX⟩, hE⟩ : ∃ n la de V, lastC ec0 S = ⟨n, la, de, V⟩ := ⟨_, _, _, _, rfl⟩
    rw [hE] at e1
    obtain ⟨P, hP⟩ : ∃ P, P = (rcS 0 ec0 S).map (·.nd) := ⟨_, rfl⟩
    have hPl : P.length = S.length := by rw [hP, List.length_map, rcS_length]
    have hPn : ∀ j, j < S.length → P[j]? = some (((codesC ec0 (S.take (j + 1))).length : Nat) : Int) := fun j hj => by rw [hP, rcS_nd S 0 ec0 j hj, Nat.zero_add]
    have hpkl : (pack M).length ≤ 100000 := by rw [pack_length]; unfold Go.Proofs.YtgnppnjhecfjeaaDoor.nb; omega
    have hO := fun (W : World) (h3 : Below w2.heap.size w2 W) => cof_any A1 c1 S W (HS.out.below h3) (by omega) hr.2 (tabGo HT.out ((HK.out.top 1).trans (h3.mono (HK.out.top 1).size)))
    simp only [e1, OutC] at hO
    have hN := fun (B : Option Addr) (d : Nat) (W : World) (h3 : Below w.heap.size w W) (hb : Bs W B (pack M)) => cends_any B d (pack M) (M.length : Int) W hb (by unfold in64; omega) hpkl (tabGo HT.out h3)
    simp only [hal] at hN
    rw [← hP] at hN
    have HM := Lib.hid hM
    have HO := Lib.hid hO
    have HN := Lib.hid hN
    have HPl := Lib.hid hPl
    have HPn := Lib.hid hPn
    have Hpk := Lib.hid hpkl
    clear hS S1 b2 hr HI HV hrk e1 hal hM hE hP hPl hPn hO hN hpkl
    go_wp2_with fail
    refine (HO.out _ (HK.out.top 0)).mono ?_
    clear HO
    rintro e w3 ⟨⟨B1, n4, d4, rfl, rfl, o4⟩, b4⟩
    have K4 := (((HK.out.go b4).own_ o4).box #[.slice B1 (pack M).length d4, .int .i64 M.length] 24).box #[.int .i64 en, .int .i64 el, .int .i64 ed, .bool eh, .int .u64 ep, .int .u8 eL, .int .u8 eX] 48
    simp only [World.size_alloc] at K4
    replace HK := Lib.hid K4
    clear K4 o4 b4
    have C := HK.out.says
    simp only [sayAll, cellsSay, qB, qW, qV, qO, qZ, Nat.reduceAdd, and_true, true_and] at C
    go_wp2_with fail
    refine (HN.out B1 d4 _ (HK.out.top 4) (HK.out.own 2).bs).mono ?_
    clear HN C
    rintro e w4 ⟨v, rfl, hv, b5⟩
    obtain ⟨A4, c4, rfl, -, h4⟩ := hv.row Tryd.eltI
    have HPr := Lib.hid h4
    have K5 := ((HK.out.go b5).cons (k := qV _ _ _ _ _ _) hv).cons (k := qW w4 w4.heap.size (Nat.le_refl _)) ⟨Below.refl _ _, Nat.le_refl _⟩
    replace HK := Lib.hid K5
    clear K5 hv b5 h4
    have C := HK.out.says
    simp only [sayAll, cellsSay, qB, qW, qV, qO, qZ, Nat.reduceAdd, and_true, true_and] at C
    go_upto_region 8 with fail
    go_cut [11] (fun s wx => ∃ n : Nat, s = .int .i64 n ∧ n ≤ M.length ∧ wx = w4)
    case first =>
      have hz : ((M.length : Int) + 1 == 0) = false := by simp; omega
      by_cases hi0 : kk < 0
      · go_wp2_with fail
        go_meet
        exact ⟨0, by rw [show max kk 0 = 0 by omega]; simp, Nat.zero_le _, rfl⟩
      · have h1 := Int.emod_nonneg kk (show ((M.length : Int) + 1) ≠ 0 by omega)
        have h2 := Int.emod_lt_of_pos kk (show 0 < ((M.length : Int) + 1) by omega)
        obtain ⟨a, ha⟩ := Int.eq_ofNat_of_zero_le h1
        have HA := Lib.hid ha
        have ha2 : a ≤ M.length := by omega
        clear ha h1 h2
        go_wp2_with fail
        go_meet
        exact ⟨a, by rw [show max kk 0 = kk by omega, HA.out], ha2, rfl⟩
    case rest =>
      obtain ⟨at_, rfl, hat, rfl⟩ := hcut
      generalize wc = w4 at *
      obtain ⟨j0, hj1, hj2, hj3, hj4, hj5⟩ := where_cut HIS.out HR.out (show S.length ≤ 1000 by omega) (at_ := at_) (by rw [← HM.out]; exact hat)
      rw [← HM.out] at hj4 hj5
      have hcs : cutSpec (pack M) (M.length : Int) 0 (at_ : Int) = (pack (M.take at_), at_, 0) := by
        unfold cutSpec
        rw [if_neg (by rw [sound_pack]; decide), if_neg (by omega), Int.sub_zero, Int.toNat_natCast, show (0 : Int).toNat = 0 from rfl, cutl_pack M 0 at_ (by omega), List.drop_zero]
      have hC := fun (W : World) (h3 : Bs W B1 (pack M)) => cut_any B1 d4 (pack M) (M.length : Int) 0 (at_ : Int) W h3 (by omega) (by have := Hpk.out; omega) (by omega) (by omega)
      simp only [hcs] at hC
      have hpt : (pack (M.take at_)).length ≤ 100000 := by rw [pack_length, List.length_take]; unfold Go.Proofs.YtgnppnjhecfjeaaDoor.nb; omega
      have hL := fun (B : Option Addr) (d : Nat) (W : World) (h3 : Below w.heap.size w W) (hb : Bs W B (pack (M.take at_))) => call_any B d (pack (M.take at_)) (at_ : Int) W hb (by unfold in64; omega) hpt (tabGo HT.out h3)
      generalize allC (pack (M.take at_)) (at_ : Int) = R at hj4 hj5 hL
      obtain ⟨L, cd⟩ := R
      dsimp only at hL
      obtain ⟨Sm, hSm⟩ : ∃ X, X = L.map smpR := ⟨_, rfl⟩
      have hA : j0 ≤ S.length → Sm = S.take j0 ∧ cd = 0 := fun h => by
        have := hj4 h
        rw [Prod.mk.injEq] at this
        exact ⟨by rw [hSm, this.1, rcS_smp], this.2⟩
      have hB : S.length < j0 → Sm = [] ∧ cd = 61 := fun h => by
        have := hj5 h
        rw [Prod.mk.injEq] at this
        exact ⟨by rw [hSm, this.1]; rfl, this.2⟩
      generalize lastE L = E0 at hL
      obtain ⟨fn, fl, fd, ⟨fh, fp, fL, fX⟩⟩ := E0
      rw [← hSm] at hL
      dsimp only at hL
      have HC := Lib.hid hC
      have HL := Lib.hid hL
      have HA := Lib.hid hA
      have HB := Lib.hid hB
      have Hj := Lib.hid hj2
      clear hC hL hA hB hj2 hj4 hj5 hSm hcs hpt
      go_wp2_with fail
      refine (HC.out _ (HK.out.own 4).bs).mono ?_
      clear HC C
      rintro e w5 ⟨A6, c6, rfl, o6, b6⟩
      have K6 := ((HK.out.go b6).own_ o6).box #[.slice A6 (pack (M.take at_)).length c6, .int .i64 at_] 24
      replace HK := Lib.hid K6
      clear K6 o6 b6
      have C := HK.out.says
      simp only [sayAll, cellsSay, qB, qW, qV, qO, qZ, Nat.reduceAdd, and_true, true_and] at C
      go_wp2_with fail
      refine (HL.out A6 c6 _ (HK.out.top 8) (HK.out.own 1).bs).mono ?_
      clear HL C
      rintro e w7 ⟨v, rfl, hv, b7⟩
      obtain ⟨A7, c7, rfl, -, -⟩ := hv.row Tryd.eltS
      have K7 := ((HK.out.go b7).cons (k := qV _ _ _ _ _ _) hv).box #[.int .i64 fn, .int .i64 fl, .int .i64 fd, .bool fh, .int .u64 fp, .int .u8 fL, .int .u8 fX] 48
      replace HK := Lib.hid K7
      clear K7 hv b7
      have HPr2 := Lib.hid (HPr.out.below (HK.out.top 4) (Nat.le_refl _))
      have HS2 := Lib.hid (HS.out.below (HK.out.top 9))
      by_cases hz0 : at_ = 0
      · have hj00 := hj3.1 hz0
        subst hz0
        subst hj00
        go_wp2_with fail
        generalize hW8 : World.alloc _ _ = W8
        rw [hW8] at HK HPr2 HS2
        clear hW8
        go_loopw [17, 18] (fun nn i wr => ∃ k : Nat, k ≤ S.length ∧ i = .int .i64 k ∧ nn = .int .i64 (jv 0 k) ∧ Below W8.heap.size W8 wr)
          (fun _ i _ => S.length - (intOf i).toNat)
        case atStart => exact ⟨0, Nat.zero_le _, rfl, by unfold jv; first | rw [if_pos (by omega)]; rfl | rw [if_neg (by omega)], Below.refl _ _⟩
        case round =>
          obtain ⟨k, hk, rfl, rfl, hbel⟩ := hrel
          rcases Nat.lt_or_ge k S.length with hlt | hge
          · obtain ⟨p, o, rfl, h1⟩ := (HPr2.out.below hbel (Nat.le_refl _)) k _ (HPn.out k hlt)
            replace h1 := h1 0 _ rfl
            rw [Nat.mul_one, Nat.add_zero] at h1
            have hjk := Hj.out (k + 1) hlt
            obtain ⟨q, hq⟩ : ∃ q, q = (codesC ec0 (S.take (k + 1))).length := ⟨_, rfl⟩
            rw [← hq] at h1 hjk
            have k0 : 0 ≤ (k : Int) := by omega
            have k1 : (k : Int) < P.length := by rw [HPl.out]; omega
            have k2 : (k : Int) < S.length := by omega
            clear hq
            by_cases he : q = 0
            · have hj := hjk.1 he
              have kt : ((q : Int) == 0) = true := by rw [he]; simp
              have Hv : Hid (jv 0 (k + 1) = ((k + 1 : Nat) : Int)) := Lib.hid (by unfold jv; rw [if_pos (by omega)]; omega)
              clear hjk he hj
              go_wp2_with fail
              go_roundw
              case measure => simp [intOf]; omega
              case rel => exact ⟨k + 1, hlt, by go_num, by rw [Hv.out]; go_num, hbel⟩
            · have hj : k + 1 ≠ 0 := fun e => he (hjk.2 e)
              have kt : ((q : Int) == 0) = false := beq_eq_false_iff_ne.2 (by omega)
              have Hv : Hid (jv 0 (k + 1) = jv 0 k) := Lib.hid (by unfold jv; by_cases h : 0 ≤ k <;> simp [h] <;> omega)
              clear hjk he hj
              go_wp2_with fail
              go_roundw
              case measure => simp [intOf]; omega
              case rel => exact ⟨k + 1, hlt, by go_num, by rw [Hv.out], hbel⟩
          · obtain rfl : k = S.length := by omega
            have kp : ¬ (S.length : Int) < P.length := by rw [HPl.out]; omega
            replace HK := Lib.hid (HK.out.go hbel)
            replace HS2 := Lib.hid (HS2.out.below hbel)
            by_cases hjs : 0 ≤ S.length
            · obtain ⟨rfl, rfl⟩ := HA.out hjs
              rw [show jv 0 S.length = ((0 : Nat) : Int) from if_pos hjs]
              have kn : ¬ ((0 : Nat) : Int) < 0 := by omega
              have hmn : (S.take 0).length = 0 := by rw [List.length_take]; omega
              have Hmn := Lib.hid hmn
              clear hmn
              have hD := csame_any A7 A1 c7 c1 (S.take 0) (S.take 0) wr ((HK.out.rowV 1).asRw Tryd.eltS).ss (HS2.out.take 0) (by rw [Hmn.out]; omega) (by rw [Hmn.out]; omega)
              rw [Hmn.out] at hD
              have HD := Lib.hid hD
              clear hD
              go_wp2_with fail
              refine HD.out.mono ?_
              rintro e w9 ⟨rfl, b9⟩
              simp only [decide_true]
              go_wp2_with fail
              go_ret
              exact ⟨by simp, on1 (HK.out.top 10) b9⟩
            · obtain ⟨rfl, rfl⟩ := HB.out (by omega)
              rw [show jv 0 S.length = -1 from if_neg hjs]
              go_wp2_with fail
              go_ret
              exact ⟨by simp, HK.out.top 10⟩
      · have hj00 : j0 ≠ 0 := fun e => hz0 (hj3.2 e)
        have kz : ((at_ : Int) == 0) = false := beq_eq_false_iff_ne.2 (by omega)
        go_wp2_with fail
        generalize hW8 : World.alloc _ _ = W8
        rw [hW8] at HK HPr2 HS2
        clear hW8
        go_loopw [17, 18] (fun nn i wr => ∃ k : Nat, k ≤ S.length ∧ i = .int .i64 k ∧ nn = .int .i64 (jv j0 k) ∧ Below W8.heap.size W8 wr)
          (fun _ i _ => S.length - (intOf i).toNat)
        case atStart => exact ⟨0, Nat.zero_le _, rfl, by unfold jv; first | rw [if_pos (by omega)]; rfl | rw [if_neg (by omega)], Below.refl _ _⟩
        case round =>
          obtain ⟨k, hk, rfl, rfl, hbel⟩ := hrel
          rcases Nat.lt_or_ge k S.length with hlt | hge
          · obtain ⟨p, o, rfl, h1⟩ := (HPr2.out.below hbel (Nat.le_refl _)) k _ (HPn.out k hlt)
            replace h1 := h1 0 _ rfl
            rw [Nat.mul_one, Nat.add_zero] at h1
            have hjk := Hj.out (k + 1) hlt
            obtain ⟨q, hq⟩ : ∃ q, q = (codesC ec0 (S.take (k + 1))).length := ⟨_, rfl⟩
            rw [← hq] at h1 hjk
            have k0 : 0 ≤ (k : Int) := by omega
            have k1 : (k : Int) < P.length := by rw [HPl.out]; omega
            have k2 : (k : Int) < S.length := by omega
            clear hq
            by_cases he : q = at_
            · have hj := hjk.1 he
              have kt : ((q : Int) == (at_ : Int)) = true := by rw [he]; simp
              have Hv : Hid (jv j0 (k + 1) = ((k + 1 : Nat) : Int)) := Lib.hid (by unfold jv; rw [if_pos (by omega)]; omega)
              clear hjk he hj
              go_wp2_with fail
              go_roundw
              case measure => simp [intOf]; omega
              case rel => exact ⟨k + 1, hlt, by go_num, by rw [Hv.out]; go_num, hbel⟩
            · have hj : k + 1 ≠ j0 := fun e => he (hjk.2 e)
              have kt : ((q : Int) == (at_ : Int)) = false := beq_eq_false_iff_ne.2 (by omega)
              have Hv : Hid (jv j0 (k + 1) = jv j0 k) := Lib.hid (by unfold jv; by_cases h : j0 ≤ k <;> simp [h] <;> omega)
              clear hjk he hj
              go_wp2_with fail
              go_roundw
              case measure => simp [intOf]; omega
              case rel => exact ⟨k + 1, hlt, by go_num, by rw [Hv.out], hbel⟩
          · obtain rfl : k = S.length := by omega
            have kp : ¬ (S.length : Int) < P.length := by rw [HPl.out]; omega
            replace HK := Lib.hid (HK.out.go hbel)
            replace HS2 := Lib.hid (HS2.out.below hbel)
            by_cases hjs : j0 ≤ S.length
            · obtain ⟨rfl, rfl⟩ := HA.out hjs
              rw [show jv j0 S.length = ((j0 : Nat) : Int) from if_pos hjs]
              have kn : ¬ ((j0 : Nat) : Int) < 0 := by omega
              have hmn : (S.take j0).length = j0 := by rw [List.length_take]; omega
              have Hmn := Lib.hid hmn
              clear hmn
              have hD := csame_any A7 A1 c7 c1 (S.take j0) (S.take j0) wr ((HK.out.rowV 1).asRw Tryd.eltS).ss (HS2.out.take j0) (by rw [Hmn.out]; omega) (by rw [Hmn.out]; omega)
              rw [Hmn.out] at hD
              have HD := Lib.hid hD
              clear hD
              go_wp2_with fail
              refine HD.out.mono ?_
              rintro e w9 ⟨rfl, b9⟩
              simp only [decide_true]
              go_wp2_with fail
              go_ret
              exact ⟨by simp, on1 (HK.out.top 10) b9⟩
            · obtain ⟨rfl, rfl⟩ := HB.out (by omega)
              rw [show jv j0 S.length = -1 from if_neg hjs]
              go_wp2_with fail
              go_ret
              exact ⟨by simp, HK.out.top 10⟩

end Go.Proofs.YtgnppnjhecfjeaaDoor

/- Layer 6: the walk of ChunkBack. -/
namespace Go.Proofs.YtgnppnjhecfjeaaDoor
open Go.RowKit
set_option maxRecDepth 100000

set_option maxHeartbeats 4000000 in
theorem chunkBack_walk (V : Option Addr) (c : Nat) (l : List (Int × Nat)) (w : World) (hV : Ss w V l) (hl : l.length ≤ maxLen) (hi : InC l) (hT : Tab w) :
    Calls Tryd.prog 11 #[.slice V l.length c] w fun e w' => e = .returned (.bool true) ∧ Below w.heap.size w w' := by
  have hmx : Tryd.prog.follows .mixedOrders = true := by kernel_rfl
  have HT := Lib.hid hT
  have HV := Lib.hid hV
  have HI := Lib.hid hi
  clear hT hV hi
  unfold maxLen at hl
  by_cases hlen : 40 < l.length
  · have hI : (40 : Int) < l.length := by omega
    go_enter Tryd.func11, Tryd.ntmps11
    go_wp2_with fail
    refine (cknown_any _ HT.out).mono ?_
    rintro e w1 ⟨rfl, b1⟩
    go_wp2_with fail
    go_ret
    exact ⟨rfl, b1⟩
  · have hI : ¬ (40 : Int) < l.length := by omega
    have HK := Lib.hid (Qs.zero w)
    go_enter Tryd.func11, Tryd.ntmps11
    go_wp2_with fail
    refine (cknown_any _ HT.out).mono ?_
    rintro e w1 ⟨rfl, b1⟩
    replace HK := Lib.hid (HK.out.go b1)
    clear b1
    go_wp2_with fail
    refine (crising_any V c l w1 (HV.out.below (HK.out.top 0)) HI.out (by omega)).mono ?_
    rintro e w2 ⟨A1, c1, rfl, S1, hc1, b2⟩
    have hr := rsL_ok l HI.out
    have hl1 := rsL_length l
    obtain ⟨S, hS⟩ : ∃ S, S = rsL l := ⟨_, rfl⟩
    rw [← hS] at S1 hc1 hr hl1 ⊢
    have HS := Lib.hid S1
    have HR := Lib.hid hr.1
    have HIS := Lib.hid hr.2
    replace HK := Lib.hid ((HK.out.go b2).cons (k := qW w2 w2.heap.size (Nat.le_refl _)) ⟨Below.refl _ _, Nat.le_refl _⟩)
    have hrk := rows_ok S ec0 ok0 (Int.le_refl _) (by show (0 : Int) + _ ≤ _; omega) hr.2
    have e1 := (ofC_rise S ec0 ok0 (Int.le_refl _) (by show (0 : Int) + _ ≤ _; omega) hr.2).1 hr.1
    have hal := allC_laid hr.2 hr.1 (by omega)
    obtain ⟨M, hM⟩ : ∃ M, M = codesC ec0 S := ⟨_, rfl⟩
    have hMl : M.length ≤ 5840 := by rw [hM]; have := hrk.2.2.1; omega
    rw [← hM] at e1 hal
    obtain ⟨en, el, ed, ⟨eh, ep, eL, eX⟩, hE⟩ : ∃ n la de V, lastC ec0 S = ⟨n, la, de, V⟩ := ⟨_, _, _, _, rfl⟩
    rw [hE] at e1
    obtain ⟨P, hP⟩ : ∃ P, P = (rcS 0 ec0 S).map (·.nd) := ⟨_, rfl⟩
    have hPl : P.length = S.length := by rw [hP, List.length_map, rcS_length]
    have hPn : ∀ j, j < S.length → P[j]? = some (((codesC ec0 (S.take (j + 1))).length : Nat) : Int) := fun j hj => by rw [hP, rcS_nd S 0 ec0 j hj, Nat.zero_add]
    have hpkl : (pack M).length ≤ 100000 := by rw [pack_length]; unfold Go.Proofs.YtgnppnjhecfjeaaDoor.nb; omega
    have hO := fun (W : World) (h3 : Below w2.heap.size w2 W) => cof_any A1 c1 S W (HS.out.below h3) (by omega) hr.2 (tabGo HT.out ((HK.out.top 1).trans (h3.mono (HK.out.top 1).size)))
    simp only [e1, OutC] at hO
    have hN := fun (B : Option Addr) (d : Nat) (W : World) (h3 : Below w.heap.size w W) (hb : Bs W B (pack M)) => cends_any B d (pack M) (M.length : Int) W hb (by unfold in64; omega) hpkl (tabGo HT.out h3)
    simp only [hal] at hN
    rw [← hP] at hN
    have hL := fun (B : Option Addr) (d : Nat) (W : World) (h3 : Below w.heap.size w W) (hb : Bs W B (pack M)) => call_any B d (pack M) (M.length : Int) W hb (by unfold in64; omega) hpkl (tabGo HT.out h3)
    simp only [hal, rcS_smp, rcS_last0, hE] at hL
    have hMl2 : M.length ≤ 146 * S.length := by rw [hM]; exact hrk.2.2.1
    have hen : en = (S.length : Int) := by have := hrk.2.1; rw [hE] at this; have h0 : ec0.n = 0 := rfl; rw [h0] at this; dsimp only at this; omega
    subst hen
    have HL := Lib.hid hL
    have HM := Lib.hid hM
    have HO := Lib.hid hO
    have HN := Lib.hid hN
    have HPl := Lib.hid hPl
    have HPn := Lib.hid hPn
    have Hpk := Lib.hid hpkl
    clear hS S1 b2 hr HI HV hrk e1 hal hM hE hP hPl hPn hO hN hpkl hL
    go_wp2_with fail
    refine (HO.out _ (HK.out.top 0)).mono ?_
    clear HO
    rintro e w3 ⟨⟨B1, n4, d4, rfl, rfl, o4⟩, b4⟩
    have K4 := (((HK.out.go b4).own_ o4).box #[.slice B1 (pack M).length d4, .int .i64 M.length] 24).box #[.int .i64 S.length, .int .i64 el, .int .i64 ed, .bool eh, .int .u64 ep, .int .u8 eL, .int .u8 eX] 48
    simp only [World.size_alloc] at K4
    replace HK := Lib.hid K4
    clear K4 o4 b4
    have C := HK.out.says
    simp only [sayAll, cellsSay, qB, qW, qV, qO, qZ, Nat.reduceAdd, and_true, true_and] at C
    go_wp2_with fail
    refine (HL.out B1 d4 _ (HK.out.top 4) (HK.out.own 2).bs).mono ?_
    clear HL C
    rintro e w8 ⟨v, rfl, hv, b8⟩
    obtain ⟨A7, c7, rfl, -, -⟩ := hv.row Tryd.eltS
    have K8 := ((HK.out.go b8).cons (k := qV _ _ _ _ _ _) hv).box #[.int .i64 S.length, .int .i64 el, .int .i64 ed, .bool eh, .int .u64 ep, .int .u8 eL, .int .u8 eX] 48
    replace HK := Lib.hid K8
    clear K8 hv b8
    have C := HK.out.says
    simp only [sayAll, cellsSay, qB, qW, qV, qO, qZ, Nat.reduceAdd, and_true, true_and] at C
    go_wp2_with fail
    refine (HN.out B1 d4 _ (HK.out.top 6) (HK.out.own 4).bs).mono ?_
    clear HN C
    rintro e w4 ⟨v, rfl, hv, b5⟩
    obtain ⟨A4, c4, rfl, -, h4⟩ := hv.row Tryd.eltI
    have HPr := Lib.hid h4
    have K5 := ((HK.out.go b5).cons (k := qV _ _ _ _ _ _) hv).cons (k := qW w4 w4.heap.size (Nat.le_refl _)) ⟨Below.refl _ _, Nat.le_refl _⟩
    replace HK := Lib.hid K5
    clear K5 hv b5 h4
    rw [HPl.out]
    have HS2 := Lib.hid (HS.out.below (HK.out.top 7))
    have D0 := HK.out.blk 2
    have D1 := HK.out.blk 4
    have D2 := HK.out.blk 5
    have ce := fun {g i : Nat} {u : Value} {W : World} (hB : Below w4.heap.size w4 W) (h : w4.cell? ⟨g, i, none⟩ = some u) => (hB.cell (cell_lt h)).trans h
    have hQ := fun (W : World) (hB : Below w4.heap.size w4 W) => csame_any A1 A7 c1 c7 S S W (HS2.out.below hB) (((HK.out.rowV 3).asRw Tryd.eltS).ss.below hB) (by omega) (by omega)
    simp only [decide_true] at hQ
    have HQ := Lib.hid hQ
    clear hQ
    obtain ⟨⟨d0, d1, d2, d3, d4', d5, d6⟩, -⟩ := D1.sept
    obtain ⟨⟨f0, f1, f2, f3, f4, f5, f6⟩, -⟩ := D0.sept
    obtain ⟨⟨y0, y1⟩, -⟩ := D2.duo
    have hp := plus_cell w4
    have kw1 : IntKind.i64.wrap (148 * (S.length : Int)) = 148 * (S.length : Int) := by rw [IntKind.wrap_i64]; omega
    have kw2 : IntKind.i64.wrap (128 + 148 * (S.length : Int)) = 128 + 148 * (S.length : Int) := by rw [IntKind.wrap_i64]; omega
    have kle : (M.length : Int) ≤ 128 + 148 * (S.length : Int) := by omega
    have HM5 := Lib.hid hMl2
    clear D0 D1 D2 ce hMl2 hMl
    by_cases hS0 : S = []
    · have k1 : ((S.length : Int) == 0) = true := by rw [hS0]; rfl
      clear hS0
      go_wp2_with fail
      refine wp_region_ext (by kernel_rfl) (by kernel_rfl) ?_
      repeat (go_big_quiet_step ((go_at_call 25; exact ext_of (HQ.out _ (plus_below _ _)))))
      refine wpQuiet_nil ?_
      rintro w9 ⟨x, rfl⟩
      go_wp2_with fail
      go_ret
      exact ⟨by simp, on1 (HK.out.top 8) (plus_below _ _)⟩
    · obtain ⟨n, hn⟩ : ∃ n, S.length = n + 1 := ⟨S.length - 1, by have := List.length_pos_iff.2 hS0; omega⟩
      have hpn := HPn.out n (by omega)
      rw [← hn, List.take_length, ← HM.out] at hpn
      obtain ⟨pp, po, rfl, h1⟩ := HPr.out n _ hpn
      replace h1 := h1 0 _ rfl
      rw [Nat.mul_one, Nat.add_zero] at h1
      have k1 : ((S.length : Int) == 0) = false := beq_eq_false_iff_ne.2 (by omega)
      have kw0 : IntKind.i64.wrap ((S.length : Int) - 1) = (n : Int) := by rw [IntKind.wrap_i64]; omega
      have k2 : (n : Int) < S.length := by omega
      have k3 : 0 ≤ (n : Int) := by omega
      have Hl := Lib.hid hn
      clear hn hS0 hpn
      go_wp2_with fail
      refine wp_region_ext (by kernel_rfl) (by kernel_rfl) ?_
      repeat (go_big_quiet_step ((go_at_call 25; exact ext_of (HQ.out _ (plus_below _ _)))))
      refine wpQuiet_nil ?_
      rintro w9 ⟨x, rfl⟩
      go_wp2_with fail
      go_ret
      exact ⟨by simp, on1 (HK.out.top 8) (plus_below _ _)⟩

end Go.Proofs.YtgnppnjhecfjeaaDoor
