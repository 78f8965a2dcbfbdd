/- Joined: Bit8. -/
import Derived.Test.YtmcdollkmlcpbaaGreatDoorQ7
import Derived.Test.YtmcdollkmlcpbaaGreatDoorQ1
import Derived.Maps.Range
import Derived.Outline
set_option linter.unusedSimpArgs false
set_option linter.unusedVariables false
namespace Go.Proofs.YtmcdollkmlcpbaaGreatDoor
open Go.RowKit
def BsL (w : World) (V : Option Addr) (E : List (List UInt8 × Int)) : Prop :=
 ∀ i e, E[i]? = some e → ∃ p o A c, V = some ⟨p, o, none⟩ ∧ w.cell? ⟨p, o + i * 2, none⟩ = some (.slice A e.1.length c) ∧ w.cell? ⟨p, o + i * 2 + 1, none⟩ = some (.int .i64 e.2) ∧ Bs w A e.1 ∧
  (-9223372036854775808 ≤ e.2 ∧ e.2 ≤ 9223372036854775807)
theorem only_new {w0 w w' : World} {row : Option Nat} (h : w0.grownBy w row) (k : Below w.heap.size w w') : w0.grownBy w' row :=
 ⟨k.os.trans h.os, k.tape.trans h.tape, k.output.trans h.output, Nat.le_trans h.size k.size, fun i hi hne => (k.block i (Nat.lt_of_lt_of_le hi h.size)).trans (h.block i hi hne)⟩
theorem grown_cell3 {w w' : World} {row : Option Nat} (h : w.grownBy w' row) {p i : Nat} {v : Value} (hc : w.cell? ⟨p, i, none⟩ = some v) (hp : some p ≠ row) : w'.cell? ⟨p, i, none⟩ = some v :=
 h.cell hc hp
theorem Bs.old {w0 w w' : World} {A : Option Addr} {l : List UInt8} {g : Nat} (h0 : Bs w0 A l) (hb : Below w0.heap.size w0 w) (hgr : w.grownBy w' (some g)) (hg : w0.heap.size ≤ g) : Bs w' A l := fun i b hi => by
 obtain ⟨p, o, hA, hc⟩ := h0 i b hi
 have hp := cell_lt hc
 exact ⟨p, o, hA, grown_cell3 hgr ((hb.cell (cell_lt hc)).trans hc) (fun e => by injection e with e; simp only at hp; omega)⟩
theorem Bs.lt {w : World} {A : Option Addr} {l : List UInt8} (h : Bs w A l) (hl : 0 < l.length) {p : Nat} {o : Nat} (hA : A = some ⟨p, o, none⟩) : p < w.heap.size := by
 obtain ⟨p', o', hA', hp, _⟩ := h.at_ hl
 rw [hA] at hA'
 injection hA' with e
 injection e with e _ _
 omega
set_option maxHeartbeats 2000000 in
theorem join_ok (V : Option Addr) (c : Nat) (E : List (List UInt8 × Int)) (w : World) (hE : BsL w V E) (hs : soundE E = true) (hlen : E.length ≤ 1000) (hl : ∀ e ∈ E, e.1.length ≤ 1073741824) :
  Calls Tryz.prog 67 #[.slice V E.length c] w fun e w' =>
   ∃ A' c', e = .returned (.tuple #[.agg #[.slice A' (pack (catE E)).length c', .int .i64 (catE E).length], .int .u16 0]) ∧ OwnB w' w.heap.size (.slice A' (pack (catE E)).length c') (pack (catE E)) ∧ Below w.heap.size w w' := by
 have hcat := catE_len E 1073741824 hs hl
 have hcatB : (catE E).length ≤ 8589934592000 := by omega
 have htake := fun k h => catE_take_len E k h
 obtain ⟨T, hT⟩ : ∃ T, T = (catE E).length := ⟨_, rfl⟩
 have HS := Lib.hid hs
 have HT := Lib.hid hT
 have HK := Lib.hid htake
 have HL := Lib.hid hl
 rw [← hT] at hcatB
 clear hs hT htake hl hcat
 go_enter Tryz.func67, Tryz.ntmps67
 go_wp2
 go_loopw [4, 13] (fun q i wr => ∃ k : Nat, k ≤ E.length ∧ i = .int .i64 k ∧ q = .int .i64 (catE (E.take k)).length ∧ Below (w.heap.size + 1) (w.alloc (.cells #[.slice none 0 0, .int .i64 0] 33)) wr)
  (fun _ i _ => E.length - (intOf i).toNat)
 case atStart => exact ⟨0, Nat.zero_le _, rfl, rfl, Below.refl _ _⟩
 case round =>
  obtain ⟨k, hk, rfl, rfl, hbel⟩ := hrel
  by_cases hlt : k < E.length
  ·obtain ⟨p, o, A, c1, rfl, h1, h2, h3, h4⟩ := hE k E[k] (List.getElem?_eq_getElem hlt)
   have bw : Below w.heap.size w wr := (below_alloc _ _).trans (hbel.mono (by omega))
   have g1 := (bw.cell (cell_lt h1)).trans h1
   have g2 := (bw.cell (cell_lt h2)).trans h2
   have hB := h3.below bw
   have hsk := soundE_get HS.out k hlt
   have hll := HL.out _ (List.getElem_mem hlt)
   have hkk := HK.out k hlt
   rw [← HT.out] at hkk
   have hstep := catE_snoc E k hlt
   obtain ⟨n, hn⟩ : ∃ n, n = E[k] := ⟨_, rfl⟩
   rw [← hn] at g1 g2 hB hsk hll hkk h4 hstep
   clear h1 h2 h3 hn
   obtain ⟨n1, n2⟩ := n
   obtain ⟨m, rfl, hm8, -⟩ := sound_nat hsk
   simp only [Int.toNat_natCast] at g1 g2 hB hll hkk hstep
   obtain ⟨M, hM⟩ : ∃ M, M = (catE (E.take k)).length := ⟨_, rfl⟩
   have hM2 : (catE (E.take (k + 1))).length = M + m := by rw [hstep, List.length_append, bitl_length, hM]
   rw [← hM] at hkk ⊢
   have HM := Lib.hid hM
   have HM2 := Lib.hid hM2
   have HSk := Lib.hid hsk
   clear hM hM2 hstep hsk
   go_wp2_with fail
   refine Calls.mono (sound_any A c1 n1 m _ (hB.below (below_alloc _ _)) h4 (by unfold maxLen; omega)) ?_
   rw [HSk.out]
   rintro e w2 ⟨rfl, hb2⟩
   have x2 := boxN hb2
   have sw := hbel.size
   simp only [World.size_alloc] at sw
   go_wp2
   go_roundw
   case measure => simp [intOf]; omega
   case rel => exact ⟨k + 1, by omega, by go_num, by rw [HM2.out]; go_num, (hbel.alloc sw _).trans (hb2.mono (by simp; omega))⟩
  ·obtain rfl : k = E.length := by omega
   rw [List.take_length, ← HT.out]
   clear hlt hk
   have sw := hbel.size
   simp only [World.size_alloc] at sw
   have bw : Below w.heap.size w wr := (below_alloc _ _).trans (hbel.mono (by omega))
   obtain ⟨N, hN⟩ : ∃ N, N = nb T := ⟨_, rfl⟩
   have hN8 : T ≤ 8 * N ∧ 8 * N ≤ T + 7 := by rw [hN]; unfold nb; omega
   have HN := Lib.hid hN
   clear hN
   go_wp2_with fail
   refine Calls.mono (bytesOf_any T _ (by omega)) ?_
   rw [← HN.out]
   rintro e w2 ⟨rfl, rfl⟩
   go_wp2_with (at_make; go_must (refine mkB _ rfl (.tmp 27) (.tmp 27) rfl (w.heap.size + 1) N rfl rfl (by omega) sw ?_); intro w3 hown3 hb3)
   have s3 := hown3.lt
   have b3 : Below (w.heap.size + 1) (w.alloc (.cells #[.slice none 0 0, .int .i64 0] 33)) w3 := hbel.trans (hb3.mono sw)
   have w13 : Below w.heap.size w w3 := bw.trans (hb3.mono (by omega))
   obtain ⟨g, hg⟩ : ∃ g, g = wr.heap.size := ⟨_, rfl⟩
   rw [← hg] at hown3 s3 ⊢
   have Hg := Lib.hid hg
   have hgw : w.heap.size < g := by omega
   clear hbel hb3 bw sw hg
   go_loopw [8, 31] (fun q i wr => ∃ (k : Nat) (bb : List UInt8), k ≤ E.length ∧ i = .int .i64 k ∧ q = .int .i64 (catE (E.take k)).length ∧ OwnB wr (w.heap.size + 1) (.slice (some ⟨g, 0, none⟩) N N) bb ∧ Hid (Begins bb (catE (E.take k))) ∧ w3.grownBy wr (some g))
    (fun _ i _ => E.length - (intOf i).toNat)
   case atStart => exact ⟨0, _, Nat.zero_le _, rfl, rfl, hown3, Begins.zero N, World.grownBy.refl _ _⟩
   case round =>
    obtain ⟨k, bb, hk, rfl, rfl, hown, HB, hgr⟩ := hrel
    by_cases hlt : k < E.length
    ·obtain ⟨p, o, A, c1, rfl, h1, h2, h3, h4⟩ := hE k E[k] (List.getElem?_eq_getElem hlt)
     have hpw := cell_lt h1
     have g1 := grown_cell3 hgr ((w13.cell (cell_lt h1)).trans h1) (fun e => by injection e with e; simp only at hpw; omega)
     have g2 := grown_cell3 hgr ((w13.cell (cell_lt h2)).trans h2) (fun e => by injection e with e; simp only at hpw; omega)
     have hB := h3.old w13 hgr (by omega)
     have hsk := soundE_get HS.out k hlt
     have hll := HL.out _ (List.getElem_mem hlt)
     have hkk := HK.out k hlt
     rw [← HT.out] at hkk
     have hstep := catE_snoc E k hlt
     obtain ⟨n, hn⟩ : ∃ n, n = E[k] := ⟨_, rfl⟩
     rw [← hn] at g1 g2 hB hsk hll hkk h4 hstep h3
     clear h1 h2 hn
     obtain ⟨n1, n2⟩ := n
     obtain ⟨m, rfl, hm8, hnb⟩ := sound_nat hsk
     simp only [Int.toNat_natCast] at g1 g2 hB hll hkk hstep h3
     obtain ⟨M, hM⟩ : ∃ M, M = (catE (E.take k)).length := ⟨_, rfl⟩
     have hM2 : (catE (E.take (k + 1))).length = M + m := by rw [hstep, List.length_append, bitl_length, hM]
     rw [← hM] at hkk ⊢
     have HM := Lib.hid hM
     have HM2 := Lib.hid hM2
     have HSk := Lib.hid hsk
     have HST := Lib.hid hstep
     have hz := ((soundB_iff n1 m).1 hsk).2.2
     have HZ := Lib.hid hz
     have HNB := Lib.hid hnb
     have hgl := hown.lt
     have hxg : wr.heap.size ≠ g := by omega
     clear hM hM2 hstep hsk hz hnb
     go_wp2_with fail
     refine Calls.mono (lay_any (w.heap.size + 1) g N N bb n1 M m A c1 _ hown.up hB.up (fun h0 p' o' hA => by have := h3.lt h0 hA; omega) (by simpa using HZ.out) HNB.out (by omega) (by omega)) ?_
     rintro e w5 ⟨rfl, L5, hown5, HL5, hg5⟩
     have y5 := grown_cell3 hg5 (box_cell wr #[.slice A n1.length c1, .int .i64 m] 33 1 _ rfl) (fun e => hxg (by injection e))
     have hg2 : w3.grownBy w5 (some g) := World.grownBy.andThen (only_new hgr (below_alloc _ _)) hg5 (fun j h => .inr h)
     go_wp2
     go_roundw
     case measure => simp [intOf]; omega
     case rel => exact ⟨k + 1, L5, by omega, by go_num, by rw [HM2.out]; go_num, hown5, by rw [HST.out]; exact HB.out.lay HSk.out (by have := HL5.out; rw [HM.out] at this; exact this), hg2⟩
    ·obtain rfl : k = E.length := by omega
     have HB2 := HB.out
     rw [List.take_length] at HB2 ⊢
     rw [← HT.out]
     have hbl : bb.length = N := by have := hown.len (g := 0); omega
     have HE : Hid (bb = pack (catE E)) := HB2.pack (by rw [hbl, HN.out, HT.out])
     have HNp : Hid (N = (pack (catE E)).length) := by rw [← HE.out]; exact hbl.symm
     clear HB2 hbl
     have hgl := hown.lt
     have bw2 : Below (w.heap.size + 1) w3 wr := (Below.refl _ _).grown hgr (by have := s3.2; omega) fun j hj => by injection hj with hj; omega
     have b4 := b3.trans bw2
     have r0 : wr.cell? ⟨w.heap.size, 0, none⟩ = some (.slice none 0 0) := (b4.cell (Nat.lt_succ_self _)).trans (box_cell _ _ _ _ _ rfl)
     have r1 : wr.cell? ⟨w.heap.size, 1, none⟩ = some (.int .i64 0) := (b4.cell (Nat.lt_succ_self _)).trans (box_cell _ _ _ _ _ rfl)
     have f0 : wr.frozen? ⟨w.heap.size, 0, none⟩ = false := (b4.frozen (p := ⟨w.heap.size, 0, none⟩) (Nat.lt_succ_self _)).trans (box_free _ _ _ _)
     have f1 : wr.frozen? ⟨w.heap.size, 1, none⟩ = false := (b4.frozen (p := ⟨w.heap.size, 1, none⟩) (Nat.lt_succ_self _)).trans (box_free _ _ _ _)
     go_wp2
     refine bodyPost_ret (v := .tuple #[.agg #[.slice (some ⟨g, 0, none⟩) N N, .int .i64 T], .int .u16 0]) (by simp [results, Tryz.results67, go_sem, r0, r1]) rfl ?_
     rw [← HE.out, ← HT.out, show bb.length = N by rw [HE.out, ← HNp.out]]
     have hne := hown.ne (show w.heap.size < w.heap.size + 1 by omega)
     exact ⟨_, _, rfl, ((hown.mono (by omega)).far hne _).far hne _, (((below_alloc _ _).trans (b4.mono (by omega))).setCell (Nat.le_refl _) _).setCell (Nat.le_refl _) _⟩
set_option maxHeartbeats 2000000 in
theorem join_err (V : Option Addr) (c : Nat) (E : List (List UInt8 × Int)) (w : World) (hE : BsL w V E) (hs : soundE E = false) (hlen : E.length ≤ 1000) (hl : ∀ e ∈ E, e.1.length ≤ 1073741824) :
  Calls Tryz.prog 67 #[.slice V E.length c] w fun e w' =>
   ∃ A' c', e = .returned (.tuple #[.agg #[.slice A' 0 c', .int .i64 0], .int .u16 11]) ∧ OwnB w' w.heap.size (.slice A' 0 c') [] ∧ Below w.heap.size w w' := by
 obtain ⟨K, hK, hbad, hgood⟩ := soundE_first hs
 have HG := Lib.hid hgood
 have HBad := Lib.hid hbad
 have HL := Lib.hid hl
 clear hs hgood hbad hl
 go_enter Tryz.func67, Tryz.ntmps67
 go_wp2
 go_loopw [4, 13] (fun q i wr => ∃ k T : Nat, k ≤ K ∧ i = .int .i64 k ∧ q = .int .i64 T ∧ T ≤ k * 8589934592 ∧ Below (w.heap.size + 1) (w.alloc (.cells #[.slice none 0 0, .int .i64 0] 33)) wr)
  (fun _ i _ => E.length - (intOf i).toNat)
 case atStart => exact ⟨0, 0, Nat.zero_le _, rfl, rfl, Nat.zero_le _, Below.refl _ _⟩
 case round =>
  obtain ⟨k, T, hk, rfl, rfl, hT, hbel⟩ := hrel
  have hlt : k < E.length := by omega
  obtain ⟨p, o, A, c1, rfl, h1, h2, h3, h4⟩ := hE k E[k] (List.getElem?_eq_getElem hlt)
  have bw : Below w.heap.size w wr := (below_alloc _ _).trans (hbel.mono (by omega))
  have g1 := (bw.cell (cell_lt h1)).trans h1
  have g2 := (bw.cell (cell_lt h2)).trans h2
  have hB := h3.below bw
  have hll := HL.out _ (List.getElem_mem hlt)
  have sw := hbel.size
  simp only [World.size_alloc] at sw
  by_cases hkK : k < K
  ·have hsk := HG.out k hkK
   obtain ⟨n, hn⟩ : ∃ n, n = E[k] := ⟨_, rfl⟩
   rw [← hn] at g1 g2 hB hsk hll h4
   clear h1 h2 h3 hn
   obtain ⟨n1, n2⟩ := n
   obtain ⟨m, rfl, hm8, -⟩ := sound_nat hsk
   simp only at g1 g2 hB hll
   have HSk := Lib.hid hsk
   clear hsk
   go_wp2_with fail
   refine Calls.mono (sound_any A c1 n1 m _ (hB.below (below_alloc _ _)) h4 (by unfold maxLen; omega)) ?_
   rw [HSk.out]
   rintro e w2 ⟨rfl, hb2⟩
   have x2 := boxN hb2
   go_wp2
   go_roundw
   case measure => simp [intOf]; omega
   case rel => exact ⟨k + 1, T + m, by omega, by go_num, by go_num, by omega, (hbel.alloc sw _).trans (hb2.mono (by simp; omega))⟩
  ·obtain rfl : k = K := by omega
   have hsk := HBad.out
   obtain ⟨n, hn⟩ : ∃ n, n = E[k] := ⟨_, rfl⟩
   rw [← hn] at g1 g2 hB hsk hll h4
   clear h1 h2 h3 hn HBad
   obtain ⟨n1, n2⟩ := n
   simp only at g1 g2 hB hll hsk h4
   have HSk := Lib.hid hsk
   clear hsk
   have r0 : wr.cell? ⟨w.heap.size, 0, none⟩ = some (.slice none 0 0) := (hbel.cell (Nat.lt_succ_self _)).trans (box_cell _ _ _ _ _ rfl)
   have r1 : wr.cell? ⟨w.heap.size, 1, none⟩ = some (.int .i64 0) := (hbel.cell (Nat.lt_succ_self _)).trans (box_cell _ _ _ _ _ rfl)
   have f0 : wr.frozen? ⟨w.heap.size, 0, none⟩ = false := (hbel.frozen (p := ⟨w.heap.size, 0, none⟩) (Nat.lt_succ_self _)).trans (box_free _ _ _ _)
   have f1 : wr.frozen? ⟨w.heap.size, 1, none⟩ = false := (hbel.frozen (p := ⟨w.heap.size, 1, none⟩) (Nat.lt_succ_self _)).trans (box_free _ _ _ _)
   go_wp2_with fail
   refine Calls.mono (sound_any A c1 n1 n2 _ (hB.below (below_alloc _ _)) h4 (by unfold maxLen; omega)) ?_
   rw [HSk.out]
   rintro e w2 ⟨rfl, hb2⟩
   have q0 := cel hb2 r0
   have q1 := cel hb2 r1
   have u0 : w2.frozen? ⟨w.heap.size, 0, none⟩ = false := ((go1 (w := wr) hb2).frozen (p := ⟨w.heap.size, 0, none⟩) (cell_lt r0)).trans f0
   have u1 : w2.frozen? ⟨w.heap.size, 1, none⟩ = false := ((go1 (w := wr) hb2).frozen (p := ⟨w.heap.size, 1, none⟩) (cell_lt r1)).trans f1
   clear r0 r1 f0 f1
   go_wp2
   refine bodyPost_ret (v := .tuple #[.agg #[.slice none 0 0, .int .i64 0], .int .u16 11]) (by simp [results, Tryz.results67, go_sem, q0, q1]) rfl ?_
   exact ⟨_, _, rfl, OwnB.nil _ _, ((on bw hb2).setCell (Nat.le_refl _) _).setCell (Nat.le_refl _) _⟩
theorem join_any (V : Option Addr) (c : Nat) (E : List (List UInt8 × Int)) (w : World) (hE : BsL w V E) (hlen : E.length ≤ 1000) (hl : ∀ e ∈ E, e.1.length ≤ 1073741824) :
  Calls Tryz.prog 67 #[.slice V E.length c] w fun e w' =>
   ∃ A' c', e = .returned (.tuple #[.agg #[.slice A' (joinSpec E).1.length c', .int .i64 (joinSpec E).2.1], .int .u16 (joinSpec E).2.2]) ∧ OwnB w' w.heap.size (.slice A' (joinSpec E).1.length c') (joinSpec E).1 ∧ Below w.heap.size w w' := by
 unfold joinSpec
 split
 ·rename_i h; exact join_ok V c E w hE h hlen hl
 ·rename_i h; exact join_err V c E w hE (by simpa using h) hlen hl
end Go.Proofs.YtmcdollkmlcpbaaGreatDoor
