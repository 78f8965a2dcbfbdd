/- Contracts of the document's own functions of layer 2: Put. -/
import Derived.Test.YtbogjnfjnchfhaaOwn
import Derived.Test.YtbogjnfjnchfhaaZigR1
import Derived.Test.YtbogjnfjnchfhaaZig3
import Derived.Test.YtbogjnfjnchfhaaRef2
import Derived.Test.YtbogjnfjnchfhaaRef3
import Derived.Test.YtbogjnfjnchfhaaRef4
namespace Go.Proofs.Ytbogjnfjnchfhaa
open Go.RowKit

theorem zfront (k : Nat) (hk : k ≤ 5) : valB (zp k) (zl k) = List.replicate k true ++ (if k < 5 then [false] else []) := by
  have : ∀ k ≤ 5, valB (zp k) (zl k) = List.replicate k true ++ (if k < 5 then [false] else []) := by decide
  exact this k hk
theorem valB_lo (v d i : Nat) (h : i < d) : (valB v d).take (i + 1) = (valB v d).take i ++ [v.testBit (d - 1 - i)] := by
  rw [List.take_succ_eq_append_getElem (by rw [valB_length]; exact h)]
  simp [valB]
theorem bit_byte (n k : Nat) (h : n < 18446744073709551616) : Value.int .u8 (bits .and .u64 ((n : Int) / 2 ^ k) 1 % 256) = bv (b2u (n.testBit k)) := by
  have h1 : n / 2 ^ k < 18446744073709551616 := Nat.lt_of_le_of_lt (Nat.div_le_self _ _) h
  have h2 := bits_and_u64_nat (n / 2 ^ k) 1 h1 (by omega)
  rw [Nat.and_one_is_mod] at h2
  rw [nat_shr, show (1 : Int) = ((1 : Nat) : Int) from rfl, h2, shr_bit, bv, b2u_toNat]
  have := b2n_le (n.testBit k)
  congr 1
  omega

set_option maxRecDepth 100000 in
set_option maxHeartbeats 2000000 in
theorem refZput_ok (A : Option Addr) (c : Nat) (l : List UInt8) (m : Nat) (v : Int) (w : World) (hb : Bs w A l) (hl : l.length ≤ 1073741824) (hs : soundB l m = true) (hv : -9223372036854775808 ≤ v ∧ v ≤ 9223372036854775807) :
    Calls Try.prog 27 #[.agg #[.slice A l.length c, .int .i64 m], .int .i64 v] w fun e w' =>
      ∃ A' c', e = .returned (.tuple #[.agg #[.slice A' (pack (bitl l m ++ zenc (foldZ v))).length c', .int .i64 (bitl l m ++ zenc (foldZ v)).length], .int .i64 0]) ∧
        OwnB w' w.heap.size (.slice A' (pack (bitl l m ++ zenc (foldZ v))).length c') (pack (bitl l m ++ zenc (foldZ v))) ∧ Below w.heap.size w w' := by
  obtain ⟨m', hm, hm8, -⟩ := sound_nat hs
  obtain rfl : m = m' := by omega
  obtain ⟨N, hN⟩ : ∃ N, N = foldZ v := ⟨_, rfl⟩
  have hNl : N < 18446744073709551616 := by rw [hN]; exact foldZ_lt v hv
  rw [← hN]
  have HN := Lib.hid hN
  obtain ⟨K, hK⟩ : ∃ K, K = zk N := ⟨_, rfl⟩
  have hK5 : K ≤ 5 := by rw [hK]; exact zk_le N
  have HK := Lib.hid hK
  have HS := Lib.hid hs
  have hzw := zw_le K
  obtain ⟨B, hB⟩ : ∃ B, B = bitl l m := ⟨_, rfl⟩
  have hBl : B.length = m := by rw [hB, bitl_length]
  rw [← hB]
  have HB := Lib.hid hB
  have HBl := Lib.hid hBl
  have hBl2 : B.length ≤ 8589934592 := by omega
  clear hm hN hK hs hB hBl
  have R0 : Blk ((w.alloc (.cells #[.slice A l.length c, .int .i64 m] 24)).alloc (.cells #[.slice none 0 0, .int .i64 0] 24)) (w.heap.size + 1) 24 #[.slice none 0 0, .int .i64 0] := by
    have h := Blk.new (w.alloc (.cells #[.slice A l.length c, .int .i64 m] 24)) 24 #[.slice none 0 0, .int .i64 0]
    rw [World.size_alloc] at h
    exact h
  have HR0 := Lib.hid R0
  clear R0
  go_enter Try.func27, Try.ntmps27
  have kA := keepA
  go_wp2_with fail
  refine Calls.mono (refSound_any A c l m _ hb.up (by omega) (by omega)) ?_
  rw [HS.out]
  rintro e w1 ⟨rfl, hb1⟩
  have x1 := boxN2 hb1
  have R1 := Lib.hid (HR0.out.go hb1)
  have t1 := go1 (w := w) hb1
  go_wp2_with fail
  refine Calls.mono (refFold_any v _ hv) ?_
  rw [← HN.out]
  rintro e w2 ⟨rfl, rfl⟩
  go_wp2_with fail
  refine Calls.mono (refList_any A c l m _ (hb.on t1) (by omega) (by omega)) ?_
  rw [← HB.out]
  rintro e w2 ⟨A2, c2, rfl, hown2, hb2⟩
  have R2 := Lib.hid (R1.out.go hb2)
  have t2 := on t1 hb2
  have hs2 := R1.out.lt
  clear HR0 x1
  go_wp2_with fail
  go_loopw [9] (fun i wr => ∃ k : Nat, k ≤ K ∧ i = .int .i64 k ∧ Below w2.heap.size w2 wr) (fun i _ => 6 - (intOf i).toNat)
  case atStart => exact ⟨0, Nat.zero_le _, rfl, Below.refl _ _⟩
  case round =>
    obtain ⟨k, hk, rfl, hbel⟩ := hrel
    by_cases hlt : k < K
    · have hd : decide (N < 2 ^ zw k) = false := by
        rw [decide_eq_false_iff_not]
        exact zk_not N k (by rw [← HK.out]; exact hlt)
      have Hd := Lib.hid hd
      clear hd
      go_wp2_with fail
      refine Calls.mono (refFits_any N k _ hNl (by omega)) ?_
      rw [Hd.out]
      rintro e w3 ⟨rfl, hb3⟩
      go_wp2
      go_roundw
      case measure => simp [intOf]; omega
      case rel => exact ⟨k + 1, by omega, by go_num, on hbel hb3⟩
    · obtain rfl : k = K := by omega
      have hd : decide (N < 2 ^ zw k) = true := by
        rw [decide_eq_true_eq, HK.out]
        exact zk_fits N hNl
      have Hd := Lib.hid hd
      clear hd
      go_wp2_with fail
      refine Calls.mono (refFits_any N k _ hNl (by omega)) ?_
      rw [Hd.out]
      rintro e w3 ⟨rfl, hb3⟩
      have b3 := on hbel hb3
      go_wp2_with fail
      refine Calls.mono (refRow_any k _ (by omega)) ?_
      rintro e w4 ⟨rfl, hb4⟩
      have b4 := on b3 hb4
      have t4 := t2.trans (b4.mono t2.size)
      have R4 := Lib.hid (R2.out.go b4)
      have hown4 := hown2.go b4
      have s4 := R4.out.lt
      have s5 := b4.size
      clear hbel hb3 b3 hb4
      go_wp2_with fail
      have b14 : Below w1.heap.size w1 w4 := hb2.trans (b4.mono hb2.size)
      go_loopw [8, 12] (fun q i wr => ∃ j : Nat, j ≤ k ∧ i = .int .i64 j ∧ OwnB wr w1.heap.size q (u8s (B ++ List.replicate j true)) ∧ Below w1.heap.size w1 wr) (fun _ i _ => 6 - (intOf i).toNat)
      case atStart => exact ⟨0, Nat.zero_le _, rfl, by rw [List.replicate_zero, List.append_nil]; exact hown4, b14⟩
      case round =>
        obtain ⟨j, hj, rfl, hown, hbel⟩ := hrel
        have hlen : (u8s (B ++ List.replicate j true)).length ≤ 8589934600 := by rw [u8s_length, List.length_append, List.length_replicate]; omega
        have Hlen := Lib.hid hlen
        have sr := hbel.size
        clear hlen
        by_cases hjk : j < k
        · go_wp2_with (at_builtin; go_must (refine appB _ rfl (.tmp 39) (.tmp 40) rfl w1.heap.size _ _ rfl (hown.alloc _) wr.heap.size (b2u true) rfl (box_cell _ _ _ _ _ rfl) (by have := Hlen.out; omega) (by simp; omega) ?_); intro g2 cap2 w5 hown5 hb5)
          go_roundw
          case measure => simp [intOf]; omega
          case rel => exact ⟨j + 1, by omega, by go_num, by rw [List.replicate_succ', ← List.append_assoc, u8s_snoc]; exact hown5, (hbel.alloc sr _).trans hb5⟩
        · obtain rfl : j = k := by omega
          go_upto_if 43 with fail
          go_cut [8] (fun q wx => OwnB wx w1.heap.size q (u8s (B ++ valB (zp j) (zl j))) ∧ Below w1.heap.size w1 wx)
          case first =>
            by_cases h5 : j < 5
            · go_wp2_with (at_builtin; go_must (refine appB _ rfl (.tmp 44) (.tmp 45) rfl w1.heap.size _ _ rfl (hown.alloc _) wr.heap.size (b2u false) rfl (box_cell _ _ _ _ _ rfl) (by have := Hlen.out; omega) (by simp; omega) ?_); intro g2 cap2 w5 hown5 hb5)
              go_meet
              exact ⟨by rw [zfront j hK5, if_pos h5, ← List.append_assoc, u8s_snoc]; exact hown5, (hbel.alloc sr _).trans hb5⟩
            · go_wp2
              go_meet
              exact ⟨by rw [zfront j hK5, if_neg h5, List.append_nil]; exact hown, hbel⟩
          case rest =>
            obtain ⟨hown5, hbel5⟩ := hcut
            go_wp2_with fail
            go_loopw [8, 13] (fun q i wr => ∃ t : Nat, t ≤ zw j ∧ i = .int .i64 ((t : Int) - 1) ∧ OwnB wr w1.heap.size q (u8s (B ++ (valB (zp j) (zl j) ++ (valB N (zw j)).take (zw j - t)))) ∧ Below w1.heap.size w1 wr) (fun _ i _ => (intOf i + 1).toNat)
            case atStart => exact ⟨zw j, Nat.le_refl _, by simp, by rw [Nat.sub_self, List.take_zero, List.append_nil]; exact hown5, hbel5⟩
            case round =>
              obtain ⟨t, ht, rfl, hown6, hbel6⟩ := hrel
              have s6 := hbel6.size
              have hlen6 : (u8s (B ++ (valB (zp j) (zl j) ++ (valB N (zw j)).take (zw j - t)))).length ≤ 8589934800 := by
                have := zl_pos j
                rw [u8s_length, List.length_append, List.length_append, List.length_take, valB_length, valB_length]; omega
              have Hlen6 := Lib.hid hlen6
              clear hlen6
              by_cases hlt : 0 < t
              · obtain ⟨i, rfl⟩ : ∃ i, t = i + 1 := ⟨t - 1, by omega⟩
                have HV := Lib.hid (bit_byte N i hNl)
                have hwr : IntKind.u64.wrap (i : Int) = (i : Int) := wrap_big _ (by omega)
                rw [show ((i + 1 : Nat) : Int) - 1 = (i : Int) by omega]
                go_wp2_with (at_builtin; go_must (refine appB _ rfl (.tmp 53) (.tmp 60) rfl w1.heap.size _ _ rfl (hown6.alloc _) wr.heap.size (b2u (N.testBit i)) rfl (box_cell _ _ _ _ _ (congrArg some HV.out)) (by have := Hlen6.out; omega) (by simp; omega) ?_); intro g3 cap3 w7 hown7 hb7)
                go_roundw
                case measure => simp [intOf]
                case rel =>
                  refine ⟨i, by omega, rfl, ?_, (hbel6.alloc s6 _).trans hb7⟩
                  have e : B ++ (valB (zp j) (zl j) ++ (valB N (zw j)).take (zw j - i)) = (B ++ (valB (zp j) (zl j) ++ (valB N (zw j)).take (zw j - (i + 1)))) ++ [N.testBit i] := by
                    rw [show zw j - i = (zw j - (i + 1)) + 1 by omega, valB_lo _ _ _ (by omega), show zw j - 1 - (zw j - (i + 1)) = i by omega, List.append_assoc, List.append_assoc]
                  rw [e, u8s_snoc]; exact hown7
              · obtain rfl : t = 0 := by omega
                obtain ⟨L, HL⟩ : ∃ L, Hid (B ++ (valB (zp j) (zl j) ++ (valB N (zw j)).take (zw j - 0)) = L) := ⟨_, rfl⟩
                have HL2 : Hid (L = B ++ zenc N) := by
                  rw [← HL.out, List.take_of_length_le (by rw [valB_length]; exact Nat.le_refl _)]
                  unfold zenc
                  rw [← HK.out]
                  exact Lib.hid rfl
                have hLl : L.length ≤ 17592186044416 := by
                  have := (zenc_pos N).2
                  rw [HL2.out, List.length_append]; omega
                rw [HL.out] at hown6
                obtain ⟨A', c', hv9, hc1, hc2, hBs⟩ := hown6.isB
                rw [u8s_length] at hv9
                subst hv9
                have R6 := R1.out.below hbel6 (by have := R1.out.lt; omega)
                have t6 : Below w.heap.size w wr := t1.trans (hbel6.mono t1.size)
                have hs6 := R1.out.lt
                go_wp2_with fail
                refine Calls.mono (refOf_any A' c' L _ hBs hLl) ?_
                rintro e w8 ⟨A8, c8, rfl, hO8, hb8⟩
                have R8 := R6.go hb8
                have r8 := R8.duo
                have t8 := on t6 hb8
                have hne := hO8.ne (show w.heap.size + 1 < wr.heap.size by omega)
                go_wp2
                refine bodyPost_ret (v := .tuple #[.agg #[.slice A8 (pack L).length c8, .int .i64 L.length], .int .i64 0]) (by simp [results, Try.results27, go_sem, r8]) rfl ?_
                rw [← HL2.out]
                exact ⟨_, _, rfl, ((hO8.mono (by omega)).far hne _).far hne _, (t8.setCell (by simp) _).setCell (by simp) _⟩

theorem refZput_err (A : Option Addr) (c : Nat) (l : List UInt8) (n : Int) (v : Int) (w : World) (hb : Bs w A l) (hn : -9223372036854775808 ≤ n ∧ n ≤ 9223372036854775807) (hl : l.length ≤ 1073741824) (hs : soundB l n = false) :
    Calls Try.prog 27 #[.agg #[.slice A l.length c, .int .i64 n], .int .i64 v] w fun e w' =>
      ∃ A' c', e = .returned (.tuple #[.agg #[.slice A' 0 c', .int .i64 0], .int .i64 11]) ∧ OwnB w' w.heap.size (.slice A' 0 c') [] ∧ Below w.heap.size w w' := by
  have HS := Lib.hid hs
  clear hs
  have R0 : Blk ((w.alloc (.cells #[.slice A l.length c, .int .i64 n] 24)).alloc (.cells #[.slice none 0 0, .int .i64 0] 24)) (w.heap.size + 1) 24 #[.slice none 0 0, .int .i64 0] := by
    have h := Blk.new (w.alloc (.cells #[.slice A l.length c, .int .i64 n] 24)) 24 #[.slice none 0 0, .int .i64 0]
    rw [World.size_alloc] at h
    exact h
  have HR0 := Lib.hid R0
  clear R0
  go_enter Try.func27, Try.ntmps27
  go_wp2_with fail
  refine Calls.mono (refSound_any A c l n _ hb.up hn (by omega)) ?_
  rw [HS.out]
  rintro e w1 ⟨rfl, hb1⟩
  have R1 := HR0.out.go hb1
  have r1 := R1.duo
  have t1 := go1 (w := w) hb1
  go_wp2
  refine bodyPost_ret (v := .tuple #[.agg #[.slice none 0 0, .int .i64 0], .int .i64 11]) (by simp [results, Try.results27, go_sem, r1]) rfl ?_
  exact ⟨_, _, rfl, OwnB.nil _ _, (t1.setCell (by simp) _).setCell (by simp) _⟩

theorem refZput_any (A : Option Addr) (c : Nat) (l : List UInt8) (n : Int) (v : Int) (w : World) (hb : Bs w A l) (hn : -9223372036854775808 ≤ n ∧ n ≤ 9223372036854775807) (hl : l.length ≤ 1073741824) (hv : -9223372036854775808 ≤ v ∧ v ≤ 9223372036854775807) :
    Calls Try.prog 27 #[.agg #[.slice A l.length c, .int .i64 n], .int .i64 v] w fun e w' =>
      ∃ A' c', e = .returned (.tuple #[.agg #[.slice A' (zputSpec l n v).1.length c', .int .i64 (zputSpec l n v).2.1], .int .i64 (zputSpec l n v).2.2]) ∧ OwnB w' w.heap.size (.slice A' (zputSpec l n v).1.length c') (zputSpec l n v).1 ∧ Below w.heap.size w w' := by
  unfold zputSpec
  split
  · rename_i h
    obtain ⟨m, rfl, -, -⟩ := sound_nat h
    exact refZput_ok A c l m v w hb hl h hv
  · rename_i h
    exact refZput_err A c l n v w hb hn hl (by simpa using h)

end Go.Proofs.Ytbogjnfjnchfhaa
