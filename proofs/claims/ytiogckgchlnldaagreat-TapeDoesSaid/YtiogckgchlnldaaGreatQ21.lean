/- Joined: StfV. -/
import Derived.Test.YtiogckgchlnldaaGreatQ18
import Derived.Test.YtiogckgchlnldaaGreatQ7
set_option linter.unusedSimpArgs false
set_option linter.unusedVariables false
/- The document's Open, its main way; StuffOpens. -/
namespace Go.Proofs.YtiogckgchlnldaaGreat
open Go.RowKit

theorem encL_of_wrap {o a : List UInt8} (h : wrapL o = a ++ [0]) : encL o = a := List.append_inj_left' h rfl

set_option maxRecDepth 100000 in
set_option maxHeartbeats 4000000 in
theorem refOpen_main (A : Option Addr) (c : Nat) (l a r : List UInt8) (w : World) (hl : Bs w A l) (hA : Fm A c) (hc : l.length ≤ c) (hn : l.length ≤ 200000) (hra : l = a ++ 0 :: r) (hz : NoZ a) (ha : 0 < a.length) :
    Calls Tryz.prog 67 #[.slice A l.length c] w fun e w' => ROpenP l w.heap.size e w' ∧ Below w.heap.size w w' := by
  have hmx : Tryz.prog.follows .mixedOrders = true := by kernel_rfl
  have hlen : a.length + 1 ≤ l.length := by rw [hra]; simp
  have hcell := hit_cell hl hra
  have Hra := Lib.hid hra
  have Hz := Lib.hid hz
  have HA := Lib.hid hA
  obtain ⟨N, hN⟩ : ∃ N, N = l.length := ⟨_, rfl⟩
  have HN := Lib.hid hN
  rw [← hN] at hlen hc hn ⊢
  obtain ⟨n0, hn0⟩ : ∃ n0, n0 = a.length := ⟨_, rfl⟩
  have Hn0 := Lib.hid hn0
  rw [← hn0] at hlen ha
  have Hcell := Lib.hid hcell
  obtain ⟨p, o, rfl, _⟩ := hcell 0 (Nat.zero_le _)
  have Hc := Lib.hid hc
  have hn' : (n0 : Int) ≤ 200000 := by omega
  have hn'' : n0 ≤ 200000 := by omega
  clear hra hz hA hN hn0 hcell hc
  go_enter Tryz.func67, Tryz.ntmps67
  go_wp2_with fail
  go_loop [5] (fun s => ∃ k : Nat, k ≤ n0 ∧ s = .int .i64 k) (fun s => n0 - (intOf s).toNat)
  case atStart => exact ⟨0, Nat.zero_le _, rfl⟩
  case round =>
    obtain ⟨k, hk, rfl⟩ := hrel
    have hcell := Hcell.out k (by rw [← Hn0.out]; exact hk)
    obtain ⟨p', o', hA', y, hcell, hin, hat⟩ := hcell
    injection hA' with hA'
    injection hA' with e1 e2 _
    subst e1 e2
    have q1 : decide ((k : Int) < N) = true := decide_eq_true (by omega)
    have q2 : decide (k < N) = true := decide_eq_true (by omega)
    rcases Nat.lt_or_ge k n0 with hlt | hge
    · have e1 : IntKind.i64.wrap ((k : Int) + 1) = ((k + 1 : Nat) : Int) := by rw [IntKind.wrap_i64]; omega
      have hy := hin (by rw [← Hn0.out]; exact hlt)
      have hy0 : y.toNat ≠ 0 := fun h => Hz.out y (List.mem_of_getElem? hy) (UInt8.toNat_inj.1 h)
      obtain ⟨z, hzy⟩ : ∃ z : Nat, z = y.toNat := ⟨_, rfl⟩
      rw [← hzy] at hcell hy0
      have r3 : ((z : Int) == 0) = false := beq_eq_false_iff_ne.2 (by omega)
      have r4 : ((z : Int) != 0) = true := by simp; omega
      clear hzy hin hat hy
      go_wp2_with fail
      go_round
      case rel => exact ⟨k + 1, hlt, by go_num⟩
      case measure => simp [intOf]; omega
    · obtain rfl : k = n0 := by omega
      have hy0 := hat Hn0.out
      subst hy0
      have hcell : w.cell? ⟨p, o + k, none⟩ = some (.int .u8 0) := hcell
      have t1 : ((k : Int) == N) = false := beq_eq_false_iff_ne.2 (by omega)
      have t2 : ((k : Int) == 0) = false := beq_eq_false_iff_ne.2 (by omega)
      clear hin hat hge
      go_wp2_with fail
      go_loopw [6, 7] (fun s6 s7 wr => ∃ (at_ : Nat) (V1 : Option Addr) (V2 : Nat) (O : List UInt8), s7 = .int .i64 at_ ∧ s6 = .slice V1 O.length V2 ∧ at_ ≤ k ∧ O.length ≤ at_ ∧ OwnB wr w.heap.size (.slice V1 O.length V2) O ∧ Below w.heap.size w wr ∧ Hid (OpenAt a at_ O))
        (fun _ s7 _ => k - (intOf s7).toNat)
      case atStart => exact ⟨0, none, 0, [], rfl, rfl, Nat.zero_le _, by simp, OwnB.nil _ _, Below.refl _ _, Lib.hid (.inl ⟨by rw [← Hn0.out]; exact ha, fun o => ⟨fun h => ⟨o, h, rfl⟩, fun ⟨o', h, e⟩ => by rw [e]; exact h⟩⟩)⟩
      case round =>
        obtain ⟨q, V1, V2, O, rfl, rfl, hq, hOq, hown, tW, HO⟩ := hrel
        rcases Nat.lt_or_ge q k with hlt | hge
        · have d1 : decide ((q : Int) < k) = true := decide_eq_true (by omega)
          have d2 : decide (q < k) = true := decide_eq_true hlt
          obtain ⟨p', o', hA', y, hcq, hin, _⟩ := Hcell.out q (by rw [← Hn0.out]; exact hq)
          injection hA' with hA'
          injection hA' with e1 e2 _
          subst e1 e2
          have hy := hin (by rw [← Hn0.out]; exact hlt)
          have hy0 : y ≠ 0 := Hz.out y (List.mem_of_getElem? hy)
          have hcq := (tW.cell (cell_lt hcq)).trans hcq
          obtain ⟨m, hm⟩ : ∃ m : Nat, m = y.toNat := ⟨_, rfl⟩
          have hm1 : 1 ≤ m := by
            rcases Nat.eq_zero_or_pos m with h | h
            · exact absurd (UInt8.toNat_inj.1 (by rw [← hm, h]; rfl)) hy0
            · exact h
          have hm2 : m < 256 := by rw [hm]; exact y.toNat_lt
          rw [← hm] at hcq
          have f0 : IntKind.i64.wrap (m : Int) = (m : Int) := by rw [IntKind.wrap_i64]; omega
          obtain ⟨j, hj⟩ : ∃ j : Nat, j = q + m := ⟨_, rfl⟩
          have f1 : IntKind.i64.wrap ((q : Int) + (m : Int)) = (j : Int) := by rw [IntKind.wrap_i64]; omega
          obtain ⟨i, hi⟩ : ∃ i : Nat, i = q + 1 := ⟨_, rfl⟩
          have f2 : IntKind.i64.wrap ((q : Int) + 1) = (i : Int) := by rw [IntKind.wrap_i64]; omega
          have Hy := Lib.hid hy
          have Hm := Lib.hid hm
          have Hj := Lib.hid hj
          have Hi := Lib.hid hi
          rcases Nat.lt_or_ge k j with hgt | hle
          · have g1 : decide ((k : Int) < (j : Int)) = true := decide_eq_true (by omega)
            have g2 : decide (k < j) = true := decide_eq_true hgt
            clear hy hm hj hi hm2 hin
            go_wp2_with fail
            go_ret3
            refine ⟨.bad (bad_hit Hra.out Hz.out (openAt_bad HO.out (by rw [← Hn0.out]; exact hlt) Hy.out (by rw [← Hm.out, ← Hn0.out, ← Hj.out]; exact hgt))), tW⟩
          · have g1 : decide ((k : Int) < (j : Int)) = false := decide_eq_false (by omega)
            have g2 : decide (k < j) = false := decide_eq_false (by omega)
            have hst := openAt_step HO.out (by rw [← Hn0.out]; exact hlt) Hy.out hy0 (by rw [← Hm.out, ← Hn0.out, ← Hj.out]; exact hle)
            rw [← Hm.out, ← Hn0.out, ← Hj.out, ← Hi.out] at hst
            obtain ⟨T, hT⟩ : ∃ T, T = (a.drop i).take (m - 1) := ⟨_, rfl⟩
            rw [← hT] at hst
            have hTl : T.length = m - 1 := by rw [hT, List.length_take, List.length_drop, ← Hn0.out]; omega
            have hTd : (l.drop i).take (m - 1) = T := by
              rw [hT, Hra.out, List.drop_append_of_le_length (by rw [← Hn0.out]; omega), List.take_append_of_le_length (by rw [List.length_drop, ← Hn0.out]; omega)]
            have hji : j - i = T.length := by omega
            have Hst := Lib.hid hst
            have HTl := Lib.hid hTl
            have HTd := Lib.hid hTd
            have Hji := Lib.hid hji
            obtain ⟨L3, HL3⟩ : ∃ L3, Hid (O.length + T.length = L3) := ⟨_, Lib.hid rfl⟩
            have hij : i ≤ j := by omega
            have hjc : j ≤ c := by have := Hc.out; omega
            clear hy hm hj hi hst hT hTl hTd hji hin
            obtain ⟨L4, HL4⟩ : ∃ L4, Hid ((O ++ T).length + 1 = L4) := ⟨_, Lib.hid rfl⟩
            by_cases hsh : m < 255 ∧ j < k
            · obtain ⟨hsh, hjk⟩ := hsh
              have m1 : decide ((m : Int) < 255) = true := decide_eq_true (by omega)
              have m2 : decide (m < 255) = true := decide_eq_true hsh
              have m3 : decide ((j : Int) < (k : Int)) = true := decide_eq_true (by omega)
              have m4 : decide (j < k) = true := decide_eq_true hjk
              go_wp2_with (first
                | (refine cutB _ rfl (.tmp 44) (.tmp 46) (.tmp 49) rfl (some ⟨p, o, none⟩) N c rfl HA.out i j rfl rfl hij hjc ?_; intro X1 hX1 _; have HX1 := Lib.hid hX1; clear hX1; rw [Hji.out]; simp [Act.put])
                | (at_builtin; refine appAll _ rfl (.tmp 43) (.tmp 50) rfl w.heap.size _ O rfl hown X1 (c - i) T rfl (by have := (HX1.out w l hl (by have := HN.out; have := Hc.out; omega)).take (m - 1); rw [HTd.out] at this; exact this.belowB tW (Nat.le_refl _)) (by have := HTl.out; omega) tW.size ?_; intro A3 c3 w3 o3 b3; have z3 := Nat.le_trans tW.size b3.size; rw [HL3.out] at o3 ⊢)
                | (at_builtin; refine appB _ rfl (.tmp 62) (.tmp 63) rfl w.heap.size _ (O ++ T) rfl (o3.alloc _) w3.heap.size 0 rfl (box_cell _ _ _ _ _ rfl) (by have := HTl.out; rw [List.length_append]; omega) (by simp; omega) ?_; intro g4 c4 w4 o4 b4; rw [HL4.out] at o4 ⊢))
              go_roundw
              case rel =>
                have x1 := HTl.out
                have x2 := Hj.out
                have hs := Hst.out
                rw [if_pos ⟨hsh, hjk⟩] at hs
                refine ⟨j, some ⟨g4, 0, none⟩, c4, O ++ T ++ [0], rfl, by rw [List.length_append, List.length_singleton, HL4.out], hle, by rw [List.length_append, List.length_append, x1, List.length_singleton]; omega, ?_, (tW.trans b3).trans (((below_alloc w3 _).mono z3).trans b4), Lib.hid hs⟩
                rw [List.length_append, List.length_singleton, HL4.out]; exact o4
              case measure =>
                show k - j < k - q
                have := Hj.out; omega
            · by_cases hs2 : m < 255
              · have hjk : k ≤ j := by omega
                have m1 : decide ((m : Int) < 255) = true := decide_eq_true (by omega)
                have m2 : decide (m < 255) = true := decide_eq_true hs2
                have m3 : decide ((j : Int) < (k : Int)) = false := decide_eq_false (by omega)
                have m4 : decide (j < k) = false := decide_eq_false (by omega)
                go_wp2_with (first
                  | (refine cutB _ rfl (.tmp 44) (.tmp 46) (.tmp 49) rfl (some ⟨p, o, none⟩) N c rfl HA.out i j rfl rfl hij hjc ?_; intro X1 hX1 _; have HX1 := Lib.hid hX1; clear hX1; rw [Hji.out]; simp [Act.put])
                  | (at_builtin; refine appAll _ rfl (.tmp 43) (.tmp 50) rfl w.heap.size _ O rfl hown X1 (c - i) T rfl (by have := (HX1.out w l hl (by have := HN.out; have := Hc.out; omega)).take (m - 1); rw [HTd.out] at this; exact this.belowB tW (Nat.le_refl _)) (by have := HTl.out; omega) tW.size ?_; intro A3 c3 w3 o3 b3; have z3 := Nat.le_trans tW.size b3.size; rw [HL3.out] at o3 ⊢)
                  | (at_builtin; refine appB _ rfl (.tmp 62) (.tmp 63) rfl w.heap.size _ (O ++ T) rfl (o3.alloc _) w3.heap.size 0 rfl (box_cell _ _ _ _ _ rfl) (by have := HTl.out; rw [List.length_append]; omega) (by simp; omega) ?_; intro g4 c4 w4 o4 b4; rw [HL4.out] at o4 ⊢))
                go_roundw
                case rel =>
                  have x1 := HTl.out
                  have x2 := Hj.out
                  have hs := Hst.out
                  rw [if_neg hsh] at hs
                  refine ⟨j, A3, c3, O ++ T, rfl, by rw [List.length_append, HL3.out], hle, by rw [List.length_append, x1]; omega, ?_, tW.trans b3, Lib.hid hs⟩
                  rw [List.length_append, HL3.out]; exact o3
                case measure =>
                  show k - j < k - q
                  have := Hj.out; omega
              · have m1 : decide ((m : Int) < 255) = false := decide_eq_false (by omega)
                have m2 : decide (m < 255) = false := decide_eq_false hs2
                go_wp2_with (first
                  | (refine cutB _ rfl (.tmp 44) (.tmp 46) (.tmp 49) rfl (some ⟨p, o, none⟩) N c rfl HA.out i j rfl rfl hij hjc ?_; intro X1 hX1 _; have HX1 := Lib.hid hX1; clear hX1; rw [Hji.out]; simp [Act.put])
                  | (at_builtin; refine appAll _ rfl (.tmp 43) (.tmp 50) rfl w.heap.size _ O rfl hown X1 (c - i) T rfl (by have := (HX1.out w l hl (by have := HN.out; have := Hc.out; omega)).take (m - 1); rw [HTd.out] at this; exact this.belowB tW (Nat.le_refl _)) (by have := HTl.out; omega) tW.size ?_; intro A3 c3 w3 o3 b3; have z3 := Nat.le_trans tW.size b3.size; rw [HL3.out] at o3 ⊢)
                  | (at_builtin; refine appB _ rfl (.tmp 62) (.tmp 63) rfl w.heap.size _ (O ++ T) rfl (o3.alloc _) w3.heap.size 0 rfl (box_cell _ _ _ _ _ rfl) (by have := HTl.out; rw [List.length_append]; omega) (by simp; omega) ?_; intro g4 c4 w4 o4 b4; rw [HL4.out] at o4 ⊢))
                go_roundw
                case rel =>
                  have x1 := HTl.out
                  have x2 := Hj.out
                  have hs := Hst.out
                  rw [if_neg hsh] at hs
                  refine ⟨j, A3, c3, O ++ T, rfl, by rw [List.length_append, HL3.out], hle, by rw [List.length_append, x1]; omega, ?_, tW.trans b3, Lib.hid hs⟩
                  rw [List.length_append, HL3.out]; exact o3
                case measure =>
                  show k - j < k - q
                  have := Hj.out; omega
        · obtain rfl : q = k := by omega
          have d1 : decide ((q : Int) < q) = false := by simp
          have hE : ∀ o, Dec a o → o = O := by
            rcases HO.out with ⟨h, _⟩ | ⟨_, h⟩
            · rw [← Hn0.out] at h; omega
            · exact h
          obtain ⟨k1, hk1⟩ : ∃ k1 : Nat, k1 = q + 1 := ⟨_, rfl⟩
          have f1 : IntKind.i64.wrap ((q : Int) + 1) = (k1 : Int) := by rw [IntKind.wrap_i64]; omega
          have hkc : k1 ≤ c := by have := Hc.out; omega
          have hkc' : (k1 : Int) ≤ c := by omega
          have hk0 : (0 : Int) ≤ k1 := by omega
          obtain ⟨E0, hE0⟩ : ∃ E0, E0 = a ++ [0] := ⟨_, rfl⟩
          have htk : l.take k1 = E0 := by
            rw [hE0, Hra.out, hk1, Hn0.out, show a ++ 0 :: r = (a ++ [0]) ++ r by simp, List.take_left' (by simp)]
          have hE0l : E0.length = k1 := by rw [hE0, hk1, Hn0.out]; simp
          have s0 : ∀ x, (convert 22 9 (.slice (some ⟨p, o, none⟩) k1 c)).run Tryz.prog (plus wr x) = .ok (.string ⟨E0.toArray⟩) (plus wr x) := fun x => by
            have := str_of (((hl.belowB tW (Nat.le_refl _)).take k1).below (plus_below wr x)) c
            rwa [htk, hE0l] at this
          have HE := Lib.hid hE
          have HE0 := Lib.hid hE0
          have Hk1 := Lib.hid hk1
          have HO1 : Hid (O.length ≤ 200000) := Lib.hid (by omega)
          have Hfm := Lib.hid hown.fm
          have Hle := Lib.hid hown.le
          clear hE hE0 htk hE0l hk1 hge
          by_cases heq : wrapL O = E0
          · have u1 : ((wrapL O) == E0) = true := beq_iff_eq.2 heq
            have u2 : ((wrapL O) != E0) = false := by simp [heq]
            have Heq := Lib.hid heq
            clear heq
            go_wp2_with fail
            refine wp_region_fresh [none, none, some 1] [1] (fun _ v z => ∃ A4 n4 c4, v = .slice A4 n4 c4 ∧ n4 = (wrapL O).length ∧ OwnB z wr.heap.size v (wrapL O)) hmx (by kernel_rfl) (by kernel_rfl) ?_
            refine walkF_one none wr rfl (by kernel_rfl) ?_
            go_big_quiet_step (fail)
            refine wpQuiet_nil ?_
            refine walkF_make none wr rfl rfl rfl (by kernel_rfl) (fun x => ?_) ?_
            · refine grow_call ?_ ((refWrap_any V1 V2 O (plus wr x) (hown.bs.below (plus_below wr x)) Hfm.out Hle.out HO1.out).mono ?_)
              · simp [execOp, go_sem]
              · rintro e w4 ⟨A4, n4, c4, rfl, rfl, o4, b4⟩
                exact ⟨_, rfl, b4, _, _, _, rfl, rfl, o4.mono (plus_below wr x).size⟩
            rintro v z ⟨A4, n4, c4, rfl, rfl, o4⟩ gz
            conv => arg 11; simp [Act.put]
            have s4 := fun x => str_of (o4.bs.below (plus_below z x)) c4
            refine walkF_one (some 1) z rfl (by kernel_rfl) ?_
            go_big_quiet_step (fail)
            refine wpQuiet_nil ?_
            iterate 6 (refine walkF_one none wr rfl (by kernel_rfl) ?_; go_big_quiet_step (fail); refine wpQuiet_nil ?_)
            refine walkF_end ?_
            intro w' h0 hE
            clear hE s4 s0 o4
            go_wp2_with fail
            go_ret3
            refine ⟨.inr ⟨O, r, V1, _, V2, ?_, ?_, rfl, hown.below h0⟩, tW.trans (Below.mono h0 tW.size)⟩
            · rw [Hra.out, encL_of_wrap (by rw [Heq.out, HE0.out])]
            · have e : k1 = (wrapL O).length := by rw [Heq.out, HE0.out, Hk1.out, Hn0.out]; simp
              rw [← e]
              rfl
          · have u1 : ((wrapL O) == E0) = false := beq_eq_false_iff_ne.2 heq
            have u2 : ((wrapL O) != E0) = true := by simp [heq]
            have Heq := Lib.hid heq
            clear heq
            go_wp2_with fail
            refine wp_region_fresh [none, none, some 1] [1] (fun _ v z => ∃ A4 n4 c4, v = .slice A4 n4 c4 ∧ n4 = (wrapL O).length ∧ OwnB z wr.heap.size v (wrapL O)) hmx (by kernel_rfl) (by kernel_rfl) ?_
            refine walkF_one none wr rfl (by kernel_rfl) ?_
            go_big_quiet_step (fail)
            refine wpQuiet_nil ?_
            refine walkF_make none wr rfl rfl rfl (by kernel_rfl) (fun x => ?_) ?_
            · refine grow_call ?_ ((refWrap_any V1 V2 O (plus wr x) (hown.bs.below (plus_below wr x)) Hfm.out Hle.out HO1.out).mono ?_)
              · simp [execOp, go_sem]
              · rintro e w4 ⟨A4, n4, c4, rfl, rfl, o4, b4⟩
                exact ⟨_, rfl, b4, _, _, _, rfl, rfl, o4.mono (plus_below wr x).size⟩
            rintro v z ⟨A4, n4, c4, rfl, rfl, o4⟩ gz
            conv => arg 11; simp [Act.put]
            have s4 := fun x => str_of (o4.bs.below (plus_below z x)) c4
            refine walkF_one (some 1) z rfl (by kernel_rfl) ?_
            go_big_quiet_step (fail)
            refine wpQuiet_nil ?_
            iterate 6 (refine walkF_one none wr rfl (by kernel_rfl) ?_; go_big_quiet_step (fail); refine wpQuiet_nil ?_)
            refine walkF_end ?_
            intro w' h0 hE
            clear hE s4 s0 o4
            go_wp2_with fail
            go_ret3
            refine ⟨.bad (bad_hit Hra.out Hz.out fun o' h => Heq.out ?_), tW.trans (Below.mono h0 tW.size)⟩
            have h1 := HE.out o' h
            have h2 := Dec.only h Hz.out
            rw [HE0.out, ← h1, ← h2]
            rfl

set_option maxRecDepth 100000 in
theorem refOpen_any (A : Option Addr) (c : Nat) (l : List UInt8) (w : World) (hl : Bs w A l) (hA : Fm A c) (hc : l.length ≤ c) (hn : l.length ≤ 200000) :
    Calls Tryz.prog 67 #[.slice A l.length c] w fun e w' => ROpenP l w.heap.size e w' ∧ Below w.heap.size w w' := by
  rcases zero_cases l with hz | ⟨a, r, hz, hra⟩
  · exact refOpen_noz A c l w hl hn hz
  · rcases Nat.eq_zero_or_pos a.length with h0 | h0
    · obtain rfl := List.eq_nil_of_length_eq_zero h0
      subst hra
      exact refOpen_empty A c r w hl hn
    · exact refOpen_main A c l a r w hl hA hc hn hra hz h0

end Go.Proofs.YtiogckgchlnldaaGreat
