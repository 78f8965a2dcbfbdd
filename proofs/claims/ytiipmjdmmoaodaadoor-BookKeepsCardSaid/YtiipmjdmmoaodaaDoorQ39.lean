/- Joined: Bit8L, Chk9L, Chk23. -/
import Derived.Test.YtiipmjdmmoaodaaDoorQ38
import Derived.Deep.RegionWith
set_option linter.unusedSimpArgs false
set_option linter.unusedVariables false
/- Join, of up to 5000 parts. -/
namespace Go.Proofs.YtiipmjdmmoaodaaDoor
open Go.RowKit

set_option maxHeartbeats 2000000 in
theorem join_okL (V : Option Addr) (c : Nat) (E : List (List UInt8 × Int)) (w : World) (hE : BsL w V E) (hs : soundE E = true) (hlen : E.length ≤ 5000) (hl : ∀ e ∈ E, e.1.length ≤ 67108864) :
    Calls Tryd.prog 50 #[.slice V E.length c] w fun e w' =>
      ∃ A' c', e = .returned (.tuple #[.agg #[.slice A' (pack (catE E)).length c', .int .i64 (catE E).length], .int .u16 0]) ∧ OwnB w' w.heap.size (.slice A' (pack (catE E)).length c') (pack (catE E)) ∧ Below w.heap.size w w' := by
  have hcat := catE_len E 67108864 hs hl
  have hcatB : (catE E).length ≤ 2684354560000 := by omega
  have htake := fun k h => catE_take_len E k h
  obtain ⟨T, hT⟩ : ∃ T, T = (catE E).length := ⟨_, rfl⟩
  have HS := Lib.hid hs
  have HT := Lib.hid hT
  have HK := Lib.hid htake
  have HL := Lib.hid hl
  rw [← hT] at hcatB
  clear hs hT htake hl hcat
  go_enter Tryd.func50, Tryd.ntmps50
  go_wp2
  go_loopw [4, 13] (fun q i wr => ∃ k : Nat, k ≤ E.length ∧ i = .int .i64 k ∧ q = .int .i64 (catE (E.take k)).length ∧ Below (w.heap.size + 1) (w.alloc (.cells #[.slice none 0 0, .int .i64 0] 43)) wr)
    (fun _ i _ => E.length - (intOf i).toNat)
  case atStart => exact ⟨0, Nat.zero_le _, rfl, rfl, Below.refl _ _⟩
  case round =>
    obtain ⟨k, hk, rfl, rfl, hbel⟩ := hrel
    by_cases hlt : k < E.length
    · obtain ⟨p, o, A, c1, rfl, h1, h2, h3, h4⟩ := hE k E[k] (List.getElem?_eq_getElem hlt)
      have bw : Below w.heap.size w wr := (below_alloc _ _).trans (hbel.mono (by omega))
      have g1 := (bw.cell (cell_lt h1)).trans h1
      have g2 := (bw.cell (cell_lt h2)).trans h2
      have hB := h3.below bw
      have hsk := soundE_get HS.out k hlt
      have hll := HL.out _ (List.getElem_mem hlt)
      have hkk := HK.out k hlt
      rw [← HT.out] at hkk
      have hstep := catE_snoc E k hlt
      obtain ⟨n, hn⟩ : ∃ n, n = E[k] := ⟨_, rfl⟩
      rw [← hn] at g1 g2 hB hsk hll hkk h4 hstep
      clear h1 h2 h3 hn
      obtain ⟨n1, n2⟩ := n
      obtain ⟨m, rfl, hm8, -⟩ := sound_nat hsk
      simp only [Int.toNat_natCast] at g1 g2 hB hll hkk hstep
      obtain ⟨M, hM⟩ : ∃ M, M = (catE (E.take k)).length := ⟨_, rfl⟩
      have hM2 : (catE (E.take (k + 1))).length = M + m := by rw [hstep, List.length_append, bitl_length, hM]
      rw [← hM] at hkk ⊢
      have HM := Lib.hid hM
      have HM2 := Lib.hid hM2
      have HSk := Lib.hid hsk
      clear hM hM2 hstep hsk
      go_wp2_with fail
      refine Calls.mono (sound_any A c1 n1 m _ (hB.below (below_alloc _ _)) h4 (by unfold maxLen; omega)) ?_
      rw [HSk.out]
      rintro e w2 ⟨rfl, hb2⟩
      have x2 := boxN hb2
      have sw := hbel.size
      simp only [World.size_alloc] at sw
      go_wp2
      go_roundw
      case measure => simp [intOf]; omega
      case rel => exact ⟨k + 1, by omega, by go_num, by rw [HM2.out]; go_num, (hbel.alloc sw _).trans (hb2.mono (by simp; omega))⟩
    · obtain rfl : k = E.length := by omega
      rw [List.take_length, ← HT.out]
      clear hlt hk
      have sw := hbel.size
      simp only [World.size_alloc] at sw
      have bw : Below w.heap.size w wr := (below_alloc _ _).trans (hbel.mono (by omega))
      obtain ⟨N, hN⟩ : ∃ N, N = nb T := ⟨_, rfl⟩
      have hN8 : T ≤ 8 * N ∧ 8 * N ≤ T + 7 := by rw [hN]; unfold nb; omega
      have HN := Lib.hid hN
      clear hN
      go_wp2_with fail
      refine Calls.mono (bytesOf_any T _ (by omega)) ?_
      rw [← HN.out]
      rintro e w2 ⟨rfl, rfl⟩
      go_wp2_with (at_make; go_must (refine mkB _ rfl (.tmp 27) (.tmp 27) rfl (w.heap.size + 1) N rfl rfl (by omega) sw ?_); intro w3 hown3 hb3)
      have s3 := hown3.lt
      have b3 : Below (w.heap.size + 1) (w.alloc (.cells #[.slice none 0 0, .int .i64 0] 43)) w3 := hbel.trans (hb3.mono sw)
      have w13 : Below w.heap.size w w3 := bw.trans (hb3.mono (by omega))
      obtain ⟨g, hg⟩ : ∃ g, g = wr.heap.size := ⟨_, rfl⟩
      rw [← hg] at hown3 s3 ⊢
      have Hg := Lib.hid hg
      have hgw : w.heap.size < g := by omega
      clear hbel hb3 bw sw hg
      go_loopw [8, 31] (fun q i wr => ∃ (k : Nat) (bb : List UInt8), k ≤ E.length ∧ i = .int .i64 k ∧ q = .int .i64 (catE (E.take k)).length ∧ OwnB wr (w.heap.size + 1) (.slice (some ⟨g, 0, none⟩) N N) bb ∧ Hid (Begins bb (catE (E.take k))) ∧ w3.grownBy wr (some g))
        (fun _ i _ => E.length - (intOf i).toNat)
      case atStart => exact ⟨0, _, Nat.zero_le _, rfl, rfl, hown3, Begins.zero N, World.grownBy.refl _ _⟩
      case round =>
        obtain ⟨k, bb, hk, rfl, rfl, hown, HB, hgr⟩ := hrel
        by_cases hlt : k < E.length
        · obtain ⟨p, o, A, c1, rfl, h1, h2, h3, h4⟩ := hE k E[k] (List.getElem?_eq_getElem hlt)
          have hpw := cell_lt h1
          have g1 := grown_cell3 hgr ((w13.cell (cell_lt h1)).trans h1) (fun e => by injection e with e; simp only at hpw; omega)
          have g2 := grown_cell3 hgr ((w13.cell (cell_lt h2)).trans h2) (fun e => by injection e with e; simp only at hpw; omega)
          have hB := h3.old w13 hgr (by omega)
          have hsk := soundE_get HS.out k hlt
          have hll := HL.out _ (List.getElem_mem hlt)
          have hkk := HK.out k hlt
          rw [← HT.out] at hkk
          have hstep := catE_snoc E k hlt
          obtain ⟨n, hn⟩ : ∃ n, n = E[k] := ⟨_, rfl⟩
          rw [← hn] at g1 g2 hB hsk hll hkk h4 hstep h3
          clear h1 h2 hn
          obtain ⟨n1, n2⟩ := n
          obtain ⟨m, rfl, hm8, hnb⟩ := sound_nat hsk
          simp only [Int.toNat_natCast] at g1 g2 hB hll hkk hstep h3
          obtain ⟨M, hM⟩ : ∃ M, M = (catE (E.take k)).length := ⟨_, rfl⟩
          have hM2 : (catE (E.take (k + 1))).length = M + m := by rw [hstep, List.length_append, bitl_length, hM]
          rw [← hM] at hkk ⊢
          have HM := Lib.hid hM
          have HM2 := Lib.hid hM2
          have HSk := Lib.hid hsk
          have HST := Lib.hid hstep
          have hz := ((soundB_iff n1 m).1 hsk).2.2
          have HZ := Lib.hid hz
          have HNB := Lib.hid hnb
          have hgl := hown.lt
          have hxg : wr.heap.size ≠ g := by omega
          clear hM hM2 hstep hsk hz hnb
          go_wp2_with fail
          refine Calls.mono (lay_any (w.heap.size + 1) g N N bb n1 M m A c1 _ hown.up hB.up (fun h0 p' o' hA => by have := h3.lt h0 hA; omega) (by simpa using HZ.out) HNB.out (by omega) (by omega)) ?_
          rintro e w5 ⟨rfl, L5, hown5, HL5, hg5⟩
          have y5 := grown_cell3 hg5 (box_cell wr #[.slice A n1.length c1, .int .i64 m] 43 1 _ rfl) (fun e => hxg (by injection e))
          have hg2 : w3.grownBy w5 (some g) := World.grownBy.andThen (only_new hgr (below_alloc _ _)) hg5 (fun j h => .inr h)
          go_wp2
          go_roundw
          case measure => simp [intOf]; omega
          case rel => exact ⟨k + 1, L5, by omega, by go_num, by rw [HM2.out]; go_num, hown5, by rw [HST.out]; exact HB.out.lay HSk.out (by have := HL5.out; rw [HM.out] at this; exact this), hg2⟩
        · obtain rfl : k = E.length := by omega
          have HB2 := HB.out
          rw [List.take_length] at HB2 ⊢
          rw [← HT.out]
          have hbl : bb.length = N := by have := hown.len (g := 0); omega
          have HE : Hid (bb = pack (catE E)) := HB2.pack (by rw [hbl, HN.out, HT.out])
          have HNp : Hid (N = (pack (catE E)).length) := by rw [← HE.out]; exact hbl.symm
          clear HB2 hbl
          have hgl := hown.lt
          have bw2 : Below (w.heap.size + 1) w3 wr := (Below.refl _ _).grown hgr (by have := s3.2; omega) fun j hj => by injection hj with hj; omega
          have b4 := b3.trans bw2
          have r0 : wr.cell? ⟨w.heap.size, 0, none⟩ = some (.slice none 0 0) := (b4.cell (Nat.lt_succ_self _)).trans (box_cell _ _ _ _ _ rfl)
          have r1 : wr.cell? ⟨w.heap.size, 1, none⟩ = some (.int .i64 0) := (b4.cell (Nat.lt_succ_self _)).trans (box_cell _ _ _ _ _ rfl)
          have f0 : wr.frozen? ⟨w.heap.size, 0, none⟩ = false := (b4.frozen (p := ⟨w.heap.size, 0, none⟩) (Nat.lt_succ_self _)).trans (box_free _ _ _ _)
          have f1 : wr.frozen? ⟨w.heap.size, 1, none⟩ = false := (b4.frozen (p := ⟨w.heap.size, 1, none⟩) (Nat.lt_succ_self _)).trans (box_free _ _ _ _)
          go_wp2
          refine bodyPost_ret (v := .tuple #[.agg #[.slice (some ⟨g, 0, none⟩) N N, .int .i64 T], .int .u16 0]) (by simp [results, Tryd.results50, go_sem, r0, r1]) rfl ?_
          rw [← HE.out, ← HT.out, show bb.length = N by rw [HE.out, ← HNp.out]]
          have hne := hown.ne (show w.heap.size < w.heap.size + 1 by omega)
          exact ⟨_, _, rfl, ((hown.mono (by omega)).far hne _).far hne _, (((below_alloc _ _).trans (b4.mono (by omega))).setCell (Nat.le_refl _) _).setCell (Nat.le_refl _) _⟩

set_option maxHeartbeats 2000000 in
theorem join_errL (V : Option Addr) (c : Nat) (E : List (List UInt8 × Int)) (w : World) (hE : BsL w V E) (hs : soundE E = false) (hlen : E.length ≤ 5000) (hl : ∀ e ∈ E, e.1.length ≤ 67108864) :
    Calls Tryd.prog 50 #[.slice V E.length c] w fun e w' =>
      ∃ A' c', e = .returned (.tuple #[.agg #[.slice A' 0 c', .int .i64 0], .int .u16 11]) ∧ OwnB w' w.heap.size (.slice A' 0 c') [] ∧ Below w.heap.size w w' := by
  obtain ⟨K, hK, hbad, hgood⟩ := soundE_first hs
  have HG := Lib.hid hgood
  have HBad := Lib.hid hbad
  have HL := Lib.hid hl
  clear hs hgood hbad hl
  go_enter Tryd.func50, Tryd.ntmps50
  go_wp2
  go_loopw [4, 13] (fun q i wr => ∃ k T : Nat, k ≤ K ∧ i = .int .i64 k ∧ q = .int .i64 T ∧ T ≤ k * 536870912 ∧ Below (w.heap.size + 1) (w.alloc (.cells #[.slice none 0 0, .int .i64 0] 43)) wr)
    (fun _ i _ => E.length - (intOf i).toNat)
  case atStart => exact ⟨0, 0, Nat.zero_le _, rfl, rfl, Nat.zero_le _, Below.refl _ _⟩
  case round =>
    obtain ⟨k, T, hk, rfl, rfl, hT, hbel⟩ := hrel
    have hlt : k < E.length := by omega
    obtain ⟨p, o, A, c1, rfl, h1, h2, h3, h4⟩ := hE k E[k] (List.getElem?_eq_getElem hlt)
    have bw : Below w.heap.size w wr := (below_alloc _ _).trans (hbel.mono (by omega))
    have g1 := (bw.cell (cell_lt h1)).trans h1
    have g2 := (bw.cell (cell_lt h2)).trans h2
    have hB := h3.below bw
    have hll := HL.out _ (List.getElem_mem hlt)
    have sw := hbel.size
    simp only [World.size_alloc] at sw
    by_cases hkK : k < K
    · have hsk := HG.out k hkK
      obtain ⟨n, hn⟩ : ∃ n, n = E[k] := ⟨_, rfl⟩
      rw [← hn] at g1 g2 hB hsk hll h4
      clear h1 h2 h3 hn
      obtain ⟨n1, n2⟩ := n
      obtain ⟨m, rfl, hm8, -⟩ := sound_nat hsk
      simp only at g1 g2 hB hll
      have HSk := Lib.hid hsk
      clear hsk
      go_wp2_with fail
      refine Calls.mono (sound_any A c1 n1 m _ (hB.below (below_alloc _ _)) h4 (by unfold maxLen; omega)) ?_
      rw [HSk.out]
      rintro e w2 ⟨rfl, hb2⟩
      have x2 := boxN hb2
      go_wp2
      go_roundw
      case measure => simp [intOf]; omega
      case rel => exact ⟨k + 1, T + m, by omega, by go_num, by go_num, by omega, (hbel.alloc sw _).trans (hb2.mono (by simp; omega))⟩
    · obtain rfl : k = K := by omega
      have hsk := HBad.out
      obtain ⟨n, hn⟩ : ∃ n, n = E[k] := ⟨_, rfl⟩
      rw [← hn] at g1 g2 hB hsk hll h4
      clear h1 h2 h3 hn HBad
      obtain ⟨n1, n2⟩ := n
      simp only at g1 g2 hB hll hsk h4
      have HSk := Lib.hid hsk
      clear hsk
      have r0 : wr.cell? ⟨w.heap.size, 0, none⟩ = some (.slice none 0 0) := (hbel.cell (Nat.lt_succ_self _)).trans (box_cell _ _ _ _ _ rfl)
      have r1 : wr.cell? ⟨w.heap.size, 1, none⟩ = some (.int .i64 0) := (hbel.cell (Nat.lt_succ_self _)).trans (box_cell _ _ _ _ _ rfl)
      have f0 : wr.frozen? ⟨w.heap.size, 0, none⟩ = false := (hbel.frozen (p := ⟨w.heap.size, 0, none⟩) (Nat.lt_succ_self _)).trans (box_free _ _ _ _)
      have f1 : wr.frozen? ⟨w.heap.size, 1, none⟩ = false := (hbel.frozen (p := ⟨w.heap.size, 1, none⟩) (Nat.lt_succ_self _)).trans (box_free _ _ _ _)
      go_wp2_with fail
      refine Calls.mono (sound_any A c1 n1 n2 _ (hB.below (below_alloc _ _)) h4 (by unfold maxLen; omega)) ?_
      rw [HSk.out]
      rintro e w2 ⟨rfl, hb2⟩
      have q0 := cel hb2 r0
      have q1 := cel hb2 r1
      have u0 : w2.frozen? ⟨w.heap.size, 0, none⟩ = false := ((go1 (w := wr) hb2).frozen (p := ⟨w.heap.size, 0, none⟩) (cell_lt r0)).trans f0
      have u1 : w2.frozen? ⟨w.heap.size, 1, none⟩ = false := ((go1 (w := wr) hb2).frozen (p := ⟨w.heap.size, 1, none⟩) (cell_lt r1)).trans f1
      clear r0 r1 f0 f1
      go_wp2
      refine bodyPost_ret (v := .tuple #[.agg #[.slice none 0 0, .int .i64 0], .int .u16 11]) (by simp [results, Tryd.results50, go_sem, q0, q1]) rfl ?_
      exact ⟨_, _, rfl, OwnB.nil _ _, ((on bw hb2).setCell (Nat.le_refl _) _).setCell (Nat.le_refl _) _⟩

theorem join_anyL (V : Option Addr) (c : Nat) (E : List (List UInt8 × Int)) (w : World) (hE : BsL w V E) (hlen : E.length ≤ 5000) (hl : ∀ e ∈ E, e.1.length ≤ 67108864) :
    Calls Tryd.prog 50 #[.slice V E.length c] w fun e w' =>
      ∃ A' c', e = .returned (.tuple #[.agg #[.slice A' (joinSpec E).1.length c', .int .i64 (joinSpec E).2.1], .int .u16 (joinSpec E).2.2]) ∧ OwnB w' w.heap.size (.slice A' (joinSpec E).1.length c') (joinSpec E).1 ∧ Below w.heap.size w w' := by
  unfold joinSpec
  split
  · rename_i h; exact join_okL V c E w hE h hlen hl
  · rename_i h; exact join_errL V c E w hE (by simpa using h) hlen hl

theorem BsL.twoL {w : World} {t : TypeId} {g : Nat} (hg : g = w.heap.size) {A B : Option Addr} {c d : Nat} {l m : List UInt8} {i j : Nat} (ha : Bs w A l) (hb : Bs w B m) (hi : i ≤ 9223372036854775807) (hj : j ≤ 9223372036854775807) :
    BsL (w.alloc (.cells #[.slice A l.length c, .int .i64 i, .slice B m.length d, .int .i64 j] t)) (some ⟨g, 0, none⟩) [(l, (i : Int)), (m, (j : Int))]   := fun k e he => by
  subst hg
  match k, he with
  | 0, he => simp at he; subst he; exact ⟨_, 0, A, c, rfl, box_cell _ _ _ _ _ rfl, box_cell _ _ _ _ _ rfl, ha.up, by simp; omega⟩
  | 1, he => simp at he; subst he; exact ⟨_, 0, B, d, rfl, box_cell _ _ _ _ _ rfl, box_cell _ _ _ _ _ rfl, hb.up, by simp; omega⟩
theorem BsL.threeL {w : World} {t : TypeId} {g : Nat} (hg : g = w.heap.size) {A B C : Option Addr} {c d f : Nat} {l m n : List UInt8} {i j q : Nat} (ha : Bs w A l) (hb : Bs w B m) (hc : Bs w C n) (hi : i ≤ 9223372036854775807) (hj : j ≤ 9223372036854775807) (hq : q ≤ 9223372036854775807) :
    BsL (w.alloc (.cells #[.slice A l.length c, .int .i64 i, .slice B m.length d, .int .i64 j, .slice C n.length f, .int .i64 q] t)) (some ⟨g, 0, none⟩) [(l, (i : Int)), (m, (j : Int)), (n, (q : Int))]   := fun k e he => by
  subst hg
  match k, he with
  | 0, he => simp at he; subst he; exact ⟨_, 0, A, c, rfl, box_cell _ _ _ _ _ rfl, box_cell _ _ _ _ _ rfl, ha.up, by simp; omega⟩
  | 1, he => simp at he; subst he; exact ⟨_, 0, B, d, rfl, box_cell _ _ _ _ _ rfl, box_cell _ _ _ _ _ rfl, hb.up, by simp; omega⟩
  | 2, he => simp at he; subst he; exact ⟨_, 0, C, f, rfl, box_cell _ _ _ _ _ rfl, box_cell _ _ _ _ _ rfl, hc.up, by simp; omega⟩

end Go.Proofs.YtiipmjdmmoaodaaDoor

/- The program's Of, of up to 5000 samples. -/
namespace Go.Proofs.YtiipmjdmmoaodaaDoor
open Go.RowKit
set_option maxRecDepth 100000

end Go.Proofs.YtiipmjdmmoaodaaDoor

/- Layer 6: what All and Ends read, and what is written. -/
namespace Go.Proofs.YtiipmjdmmoaodaaDoor

/-- readings of samples, from a place on -/
def rcS (a : Nat) (e : EC) : List (Int × Nat) → List RC
  | [] => []
  | s :: S => ⟨s.1, s.2, ((a + (encC e s.1 s.2).1.length : Nat) : Int), (encC e s.1 s.2).2, 0⟩ :: rcS (a + (encC e s.1 s.2).1.length) (encC e s.1 s.2).2 S
theorem rcS_good (S : List (Int × Nat)) : ∀ a e, ∀ x ∈ rcS a e S, x.c = 0 := by
  induction S with
  | nil => intro a e x h; cases h
  | cons s S ih =>
    intro a e x h
    rcases List.mem_cons.1 h with rfl | h
    · rfl
    · exact ih _ _ x h
theorem rcS_smp (S : List (Int × Nat)) : ∀ a e, (rcS a e S).map smpR = S := by
  induction S with
  | nil => intro a e; rfl
  | cons s S ih => intro a e; simp [rcS, smpR, ih]
theorem rcS_length (S : List (Int × Nat)) (a : Nat) (e : EC) : (rcS a e S).length = S.length := by
  have := congrArg List.length (rcS_smp S a e)
  simpa using this
theorem lastE_cons (x y : RC) (l : List RC) : lastE (x :: y :: l) = lastE (y :: l) := by simp [lastE, List.getLast?_cons_cons]
theorem rcS_last (S : List (Int × Nat)) : ∀ a e, S ≠ [] → lastE (rcS a e S) = lastC e S := by
  induction S with
  | nil => intro a e h; exact absurd rfl h
  | cons s S ih =>
    intro a e _
    cases S with
    | nil => rfl
    | cons u S =>
      have h := ih (a + (encC e s.1 s.2).1.length) (encC e s.1 s.2).2 (by simp)
      simp only [rcS] at h ⊢
      rw [lastE_cons, h]
      rfl
theorem rcS_last0 (S : List (Int × Nat)) (a : Nat) : lastE (rcS a ec0 S) = lastC ec0 S := by
  cases S with
  | nil => rfl
  | cons s S => exact rcS_last _ a ec0 (by simp)
theorem rcS_nd (S : List (Int × Nat)) : ∀ a e j, j < S.length → ((rcS a e S).map (·.nd))[j]? = some ((a + (codesC e (S.take (j + 1))).length : Nat) : Int) := by
  induction S with
  | nil => intro a e j h; simp at h
  | cons s S ih =>
    intro a e j h
    cases j with
    | zero => simp [rcS, codesC]
    | succ j =>
      have := ih (a + (encC e s.1 s.2).1.length) (encC e s.1 s.2).2 j (by simpa using h)
      simp only [rcS, List.map_cons, List.getElem?_cons_succ, this, List.take_succ_cons, codesC, List.length_append]
      congr 2
      omega

/-- what is written is read -/
theorem rdC_laid (l : List UInt8) (m : Nat) (S : List (Int × Nat)) : ∀ (f : Nat) (e : EC) (a : Nat), OkC e → 0 ≤ e.n → e.n + S.length ≤ 1000000 → InC S → RiseC e S → (bitl l m).drop a = codesC e S → a ≤ m → S.length ≤ f → rdC l m f e a = rcS a e S := by
  induction S with
  | nil =>
    intro f e a he hn hb hi hr h ha hf
    have hz : m ≤ a := by
      have := congrArg List.length h
      simp only [List.length_drop, bitl_length, codesC, List.length_nil] at this
      omega
    cases f with
    | zero => rfl
    | succ f => unfold rdC; rw [if_pos hz]; rfl
  | cons s S ih =>
    intro f e a he hn hb hi hr h ha hf
    obtain ⟨i1, i2⟩ := hi s List.mem_cons_self
    simp only [List.length_cons] at hb hf
    obtain ⟨r1, r2⟩ := hr
    obtain ⟨h1, h2, -⟩ := encC_ok he ⟨hn, by omega⟩ i1 i2
    have hl := encC_length he s.1 i2
    have hlen := congrArg List.length h
    simp only [List.length_drop, bitl_length, codesC, List.length_append] at hlen
    cases f with
    | zero => omega
    | succ f =>
      have hg : gotC l m e (a : Int) = ⟨s.1, s.2, ((a + (encC e s.1 s.2).1.length : Nat) : Int), (encC e s.1 s.2).2, 0⟩ := by
        unfold gotC
        rw [if_neg (by omega), Int.toNat_natCast, h]
        simp only [codesC]
        rw [decC_enc he i1 i2 r1]
        rfl
      unfold rdC
      rw [if_neg (by omega), hg]
      simp only [if_true, Int.toNat_natCast, rcS]
      rw [ih f _ (a + (encC e s.1 s.2).1.length) h1 (by omega) (by rw [h2]; omega) (fun x hx => hi x (List.mem_cons_of_mem _ hx)) r2 (by
        rw [← List.drop_drop, h]
        simp only [codesC, List.drop_left]) (by omega) (by omega)]

/-- what is read is written -/
theorem rdC_only (l : List UInt8) (m : Nat) : ∀ (f : Nat) (e : EC) (a : Nat), OkC e → 0 ≤ e.n → e.n + ((m - a : Nat) : Int) < 1000000 → a ≤ m → m ≤ a + f → (∀ x ∈ rdC l m f e a, x.c = 0) →
    ∃ S, rdC l m f e a = rcS a e S ∧ codesC e S = (bitl l m).drop a ∧ RiseC e S ∧ InC S
  | 0, e, a, he, hn, hb, ha, hf, hg => ⟨[], rfl, by rw [List.drop_eq_nil_of_le (by rw [bitl_length]; omega)]; rfl, trivial, fun s h => by cases h⟩
  | f + 1, e, a, he, hn, hb, ha, hf, hg => by
    unfold rdC at hg ⊢
    by_cases hz : m ≤ a
    · rw [if_pos hz]
      exact ⟨[], rfl, by rw [List.drop_eq_nil_of_le (by rw [bitl_length]; omega)]; rfl, trivial, fun s h => by cases h⟩
    · rw [if_neg hz] at hg ⊢
      have hc := hg _ List.mem_cons_self
      rw [if_pos hc] at hg ⊢
      have h0 := hc
      unfold gotC at h0
      rw [if_neg (by omega), Int.toNat_natCast] at h0
      cases hd : decC e ((bitl l m).drop a) with
      | none => rw [hd] at h0; simp [rc0] at h0
      | some p =>
        obtain ⟨t, v, k, e'⟩ := p
        have hgt : gotC l m e (a : Int) = ⟨t, v, ((a + k : Nat) : Int), e', 0⟩ := by
          unfold gotC
          rw [if_neg (by omega), Int.toNat_natCast, hd]
          rfl
        obtain ⟨k1, k2, k3, k4, k5, k6, k7⟩ := decC_only he hd
        rw [List.length_drop, bitl_length] at k1
        obtain ⟨h1, h2, -⟩ := encC_ok he ⟨hn, by omega⟩ k3 k4
        have c1 : (encC e t v).1 = ((bitl l m).drop a).take k := by rw [k2]
        have c2 : (encC e t v).2 = e' := by rw [k2]
        have c3 : (encC e t v).1.length = k := by rw [c1, List.length_take, List.length_drop, bitl_length]; omega
        rw [c2] at h1 h2
        rw [hgt] at hg ⊢
        dsimp only at hg ⊢
        rw [Int.toNat_natCast] at hg ⊢
        obtain ⟨S, s1, s2, s3, s4⟩ := rdC_only l m f e' (a + k) h1 (by omega) (by rw [h2]; omega) (by omega) (by omega) (fun x hx => hg x (List.mem_cons_of_mem _ hx))
        refine ⟨(t, v) :: S, ?_, ?_, ⟨k6, ?_⟩, ?_⟩
        · simp only [rcS, c2, c3, s1]
        · simp only [codesC, c1, c2, s2]
          rw [← List.drop_drop, List.take_append_drop]
        · show RiseC (encC e t v).2 S
          rw [c2]; exact s3
        · intro s hs
          rcases List.mem_cons.1 hs with rfl | hs
          · exact ⟨k3, k4⟩
          · exact s4 s hs

theorem allC_bad {l : List UInt8} {nb : Int} (h : soundB l nb = false) : allC l nb = ([], 11) := by unfold allC; rw [if_pos h]
/-- All of sound bits: samples that are laid just so, or none -/
theorem allC_cases {l : List UInt8} {m : Nat} (hs : soundB l (m : Int) = true) (hl : l.length ≤ 100000) :
    (∃ S, allC l (m : Int) = (rcS 0 ec0 S, 0) ∧ codesC ec0 S = bitl l m ∧ RiseC ec0 S ∧ InC S) ∨ allC l (m : Int) = ([], 61) := by
  obtain ⟨m', hm, hm8, -⟩ := sound_nat hs
  obtain rfl : m = m' := by omega
  by_cases hg : ∀ x ∈ rdsC l (m : Int), x.c = 0
  · have hrd : rdsC l (m : Int) = rdC l m m ec0 0 := by unfold rdsC; rw [if_neg (by rw [hs]; decide), Int.toNat_natCast]
    rw [all_done hg]
    rw [hrd] at hg ⊢
    obtain ⟨S, h1, h2, h3, h4⟩ := rdC_only l m m ec0 0 ok0 (Int.le_refl _) (by show (0 : Int) + _ < _; omega) (Nat.zero_le _) (by omega) hg
    exact .inl ⟨S, by rw [h1], by rw [h2, List.drop_zero], h3, h4⟩
  · right
    unfold allC
    rw [if_neg (by rw [hs]; decide)]
    first | rfl | rw [if_neg hg]
theorem allC_laid {S : List (Int × Nat)} (hi : InC S) (hr : RiseC ec0 S) (hl : S.length ≤ 1000) : allC (pack (codesC ec0 S)) (codesC ec0 S).length = (rcS 0 ec0 S, 0) := by
  have hs := sound_pack (codesC ec0 S)
  have h2 := rows_ok S ec0 ok0 (Int.le_refl _) (by show (0 : Int) + _ ≤ _; omega) hi
  have hrd : rdsC (pack (codesC ec0 S)) ((codesC ec0 S).length : Int) = rcS 0 ec0 S := by
    unfold rdsC
    rw [if_neg (by rw [hs]; decide), Int.toNat_natCast]
    exact rdC_laid _ _ S _ ec0 0 ok0 (Int.le_refl _) (by show (0 : Int) + _ ≤ _; omega) hi hr (by rw [List.drop_zero, bits_pack]) (Nat.zero_le _) (by omega)
  rw [all_done (by rw [hrd]; exact rcS_good S 0 ec0), hrd]

end Go.Proofs.YtiipmjdmmoaodaaDoor
