/- Joined: Nt6d, Nt7, Nt81, Nt82, Nt83, Nt84. -/
import Derived.Test.YtpedobpbpomkaaaQ14
import Derived.Test.YtpedobpbpomkaaaQ6
set_option linter.unusedSimpArgs false
set_option linter.unusedVariables false
/- Layer 11: Encode of the program. -/
set_option linter.unusedSimpArgs false
set_option linter.unusedVariables false
namespace Go.Proofs.Ytpedobpbpomkaaa
open Go.RowKit
set_option maxRecDepth 100000

set_option maxHeartbeats 8000000 in
theorem nenc_yes4 (d : NoD) (A : Option Addr) (c : Nat) (w : World) (hA : Bs w A d.l) (ho : d.ok) (hm : mayN d = true) (hk : d.kd = 4) :
    Calls Try.prog 23 #[.agg (noC d A c)] w fun e w' => ∃ A' c' N, e = .returned (.tuple #[.slice A' N c', .int .u16 0]) ∧ Hid (N = (encN d).length ∧ OwnB w' w.heap.size (.slice A' N c') (encN d) ∧ Below w.heap.size w w') := by
  have h4 := mayN_4 hm hk
  have hM := nmay_any d A c (w.alloc (.cells (noC d A c) 50)) (hA.below (below_alloc w _)) ho (by omega)
  rw [hm] at hM
  have hE := encN_4 d hk
  obtain ⟨E, hEE⟩ : ∃ E, E = encN d := ⟨_, rfl⟩
  rw [← hEE] at hE ⊢
  obtain ⟨o1, o2, o3, o4, o5, o6, o7, o8, o9, -, -⟩ := ho
  clear hm hEE
  obtain ⟨kd, ep, se, st, sv, pc, pb, pn, cn, cl, l, n⟩ := d
  simp only at hk
  subst hk
  simp only [noC] at h4 hM hA hE o3 o6 o7 o8 o9 ⊢
  obtain ⟨-, -, -, -, hn0, hn1, hl5⟩ := h4
  obtain ⟨m, rfl⟩ := Int.eq_ofNat_of_zero_le (show 0 ≤ n by omega)
  simp only [Int.toNat_natCast] at hE
  have u9 : IntKind.u64.wrap (m : Int) = m := by rw [IntKind.wrap_u64]; omega
  have HE := Lib.hid hE
  have HM := Lib.hid hM
  have HA := Lib.hid hA
  clear hM hA hE hn0
  have u_se : IntKind.u64.wrap (se : Int) = se := by rw [IntKind.wrap_u64]; omega
  have u_pc : IntKind.u64.wrap (pc : Int) = pc := by rw [IntKind.wrap_u64]; omega
  have u_pb : IntKind.u64.wrap (pb : Int) = pb := by rw [IntKind.wrap_u64]; omega
  have u_pn : IntKind.u64.wrap (pn : Int) = pn := by rw [IntKind.wrap_u64]; omega
  have u_cn : IntKind.u64.wrap (cn : Int) = cn := by rw [IntKind.wrap_u64]; omega
  have HF0 := Lib.hid (Blk.new w 50 #[.int .u8 4, .int .u32 (ep : Nat), .int .u32 (se : Nat), .int .i64 st, .int .u64 (sv : Nat), .int .u32 (pc : Nat), .int .u32 (pb : Nat), .int .u32 (pn : Nat), .int .u32 (cn : Nat), .bool cl, .slice A l.length c, .int .i64 (m : Nat)])
  have C := blk_says HF0.out
  simp only [cellsSay, Nat.reduceAdd, and_true] at C
  obtain ⟨cb, hcb⟩ : ∃ x : UInt8, x = if cl then 1 else 0 := ⟨_, rfl⟩
  rw [← hcb] at HE
  have HCb := Lib.hid hcb
  clear hcb
  go_enter Try.func23, Try.ntmps23
  go_wp2_with fail
  refine HM.out.mono ?_
  rintro e w1 ⟨rfl, b1⟩
  have HF1 := Lib.hid (Blk.below HF0.out b1 (by simp))
  have HB1 := Lib.hid ((below_alloc w _).trans (b1.mono (by simp)))
  clear C b1 HM HF0
  have C := blk_says HF1.out
  simp only [cellsSay, Nat.reduceAdd, and_true] at C
  go_upto_region 4 with fail
  have HN1 := Lib.hid (Ne.start HF1.out HB1.out 4)
  clear C HF1 HB1
  obtain ⟨W1, hW1⟩ : ∃ W, W = w1.alloc (.cells #[.int .u8 4] 5) := ⟨_, rfl⟩
  have HN : Hid (Ne w W1 #[.int .u8 4, .int .u32 (ep : Nat), .int .u32 (se : Nat), .int .i64 st, .int .u64 (sv : Nat), .int .u32 (pc : Nat), .int .u32 (pb : Nat), .int .u32 (pn : Nat), .int .u32 (cn : Nat), .bool cl, .slice A l.length c, .int .i64 (m : Nat)] 1 (some ⟨w1.heap.size, 0, none⟩) 1 [4]) := by rw [hW1]; exact HN1
  rw [← hW1]
  clear HN1 hW1
  have HNn : Hid ((1 : Nat) ≤ 100) := Lib.hid (by decide)
  have C := blk_says HN.out.fr
  simp only [cellsSay, Nat.reduceAdd, and_true] at C
  have HP := Lib.hid (HN.out.nput se 4 (by decide) (by omega) (by have := HNn.out; omega))
  go_wp2_with fail
  refine HP.out.mono ?_
  clear HP C
  rintro e W2 ⟨A2, c2, N2, rfl, HR⟩
  have HNn2 : Hid (N2 = 1 + 4) := Lib.hid HR.out.1
  replace HN := Lib.hid HR.out.2.1
  replace HNn : Hid (N2 ≤ 140) := Lib.hid (by have := HNn.out; have := HNn2.out; omega)
  clear HR HNn2
  have C := blk_says HN.out.fr
  simp only [cellsSay, Nat.reduceAdd, and_true] at C
  go_wp2_with fail
  have hq2 : (Value.slice A2 N2 c2).ownBlock ≠ some W2.heap.size := fun e => Nat.lt_irrefl _ (World.ownsRow.lt HN.out.own _ e).2
  obtain ⟨W3, hW3⟩ : ∃ W, W = W2.alloc (.cells #[.int .u32 (pc : Nat), .int .u32 (pb : Nat), .int .u32 (pn : Nat)] 22) := ⟨_, rfl⟩
  rw [← hW3]
  have HR0 : Hid (Ne w W3 #[.int .u8 4, .int .u32 (ep : Nat), .int .u32 (se : Nat), .int .i64 st, .int .u64 (sv : Nat), .int .u32 (pc : Nat), .int .u32 (pb : Nat), .int .u32 (pn : Nat), .int .u32 (cn : Nat), .bool cl, .slice A l.length c, .int .i64 (m : Nat)] N2 A2 c2 ([4] ++ be 4 se) ∧ Blk W3 W2.heap.size 22 #[.int .u32 (pc : Nat), .int .u32 (pb : Nat), .int .u32 (pn : Nat)] ∧ (Value.slice A2 N2 c2).ownBlock ≠ some W2.heap.size ∧ N2 ≤ 200) := Lib.hid (by rw [hW3]; exact ⟨HN.out.go (below_alloc _ _), Blk.new _ _ _, hq2, by have := HNn.out; omega⟩)
  obtain ⟨q, hq⟩ : ∃ q, q = W2.heap.size := ⟨_, rfl⟩
  rw [← hq] at HR0 ⊢
  clear hq hW3 hq2 HN HNn C
  go_loopw [4, 52] (fun s4 s52 wr => ∃ (k N : Nat) (A2 : Option Addr) (c2 : Nat) (M : List UInt8), k ≤ 3 ∧ s52 = .int .i64 k ∧ s4 = .slice A2 N c2 ∧ Hid (Ne w wr #[.int .u8 4, .int .u32 (ep : Nat), .int .u32 (se : Nat), .int .i64 st, .int .u64 (sv : Nat), .int .u32 (pc : Nat), .int .u32 (pb : Nat), .int .u32 (pn : Nat), .int .u32 (cn : Nat), .bool cl, .slice A l.length c, .int .i64 (m : Nat)] N A2 c2 M ∧ Blk wr q 22 #[.int .u32 (pc : Nat), .int .u32 (pb : Nat), .int .u32 (pn : Nat)] ∧ (Value.slice A2 N c2).ownBlock ≠ some q ∧ N ≤ 200 + 4 * k ∧ M = [4] ++ be 4 se ++ ([pc, pb, pn].take k).flatMap (be 4)))
    (fun _ s52 _ => 3 - (intOf s52).toNat)
  case atStart => exact ⟨0, N2, A2, c2, _, by omega, rfl, rfl, Lib.hid ⟨HR0.out.1, HR0.out.2.1, HR0.out.2.2.1, HR0.out.2.2.2, by simp⟩⟩
  case round =>
    obtain ⟨k, N3, A3, c3, M3, hk, rfl, rfl, HR⟩ := hrel
    clear HR0
    by_cases hk0 : k = 0
    · subst hk0
      have C := blk_says HR.out.2.1
      simp only [cellsSay, Nat.reduceAdd, and_true] at C
      have HP := Lib.hid (HR.out.1.nput pc 4 (by decide) (by omega) (by have := HR.out.2.2.2.1; omega))
      go_wp2_with fail
      refine HP.out.mono ?_
      clear HP C
      rintro e W4 ⟨A4, c4, N4, rfl, HQ⟩
      have hB := HQ.out.2.2.blk HR.out.2.1 HR.out.2.2.1
      have HB := Lib.hid hB
      clear hB
      go_wp2_with fail
      go_roundw
      case rel => exact ⟨1, N4, A4, c4, _, by omega, rfl, rfl, Lib.hid ⟨HQ.out.2.1, HB.out.1, HB.out.2, by have := HQ.out.1; have := HR.out.2.2.2.1; omega, by rw [HR.out.2.2.2.2]; simp⟩⟩
      case measure => simp [intOf]
    by_cases hk1 : k = 1
    · subst hk1
      clear hk0
      have C := blk_says HR.out.2.1
      simp only [cellsSay, Nat.reduceAdd, and_true] at C
      have HP := Lib.hid (HR.out.1.nput pb 4 (by decide) (by omega) (by have := HR.out.2.2.2.1; omega))
      go_wp2_with fail
      refine HP.out.mono ?_
      clear HP C
      rintro e W4 ⟨A4, c4, N4, rfl, HQ⟩
      have hB := HQ.out.2.2.blk HR.out.2.1 HR.out.2.2.1
      have HB := Lib.hid hB
      clear hB
      go_wp2_with fail
      go_roundw
      case rel => exact ⟨2, N4, A4, c4, _, by omega, rfl, rfl, Lib.hid ⟨HQ.out.2.1, HB.out.1, HB.out.2, by have := HQ.out.1; have := HR.out.2.2.2.1; omega, by rw [HR.out.2.2.2.2]; simp⟩⟩
      case measure => simp [intOf]
    by_cases hk2 : k = 2
    · subst hk2
      clear hk0 hk1
      have C := blk_says HR.out.2.1
      simp only [cellsSay, Nat.reduceAdd, and_true] at C
      have HP := Lib.hid (HR.out.1.nput pn 4 (by decide) (by omega) (by have := HR.out.2.2.2.1; omega))
      go_wp2_with fail
      refine HP.out.mono ?_
      clear HP C
      rintro e W4 ⟨A4, c4, N4, rfl, HQ⟩
      have hB := HQ.out.2.2.blk HR.out.2.1 HR.out.2.2.1
      have HB := Lib.hid hB
      clear hB
      go_wp2_with fail
      go_roundw
      case rel => exact ⟨3, N4, A4, c4, _, by omega, rfl, rfl, Lib.hid ⟨HQ.out.2.1, HB.out.1, HB.out.2, by have := HQ.out.1; have := HR.out.2.2.2.1; omega, by rw [HR.out.2.2.2.2]; simp⟩⟩
      case measure => simp [intOf]
    obtain rfl : k = 3 := by omega
    clear hk hk0 hk1 hk2
    have hM3 : M3 = [4] ++ be 4 se ++ be 4 pc ++ be 4 pb ++ be 4 pn := by rw [HR.out.2.2.2.2]; simp
    subst hM3
    have HN := Lib.hid HR.out.1
    have HNn : Hid (N3 ≤ 212) := Lib.hid HR.out.2.2.2.1
    clear HR
    cases cl
    rotate_left
    · skip
      have C := blk_says HN.out.fr
      simp only [cellsSay, Nat.reduceAdd, and_true] at C
      have HP := Lib.hid (HN.out.nput cn 4 (by decide) (by omega) (by have := HNn.out; omega))
      go_wp2_with fail
      refine HP.out.mono ?_
      clear HP C
      rintro e W6 ⟨A6, c6, N6, rfl, HR⟩
      have HNn6 : Hid (N6 = N3 + 4) := Lib.hid HR.out.1
      replace HN := Lib.hid HR.out.2.1
      replace HNn : Hid (N6 ≤ 220) := Lib.hid (by have := HNn.out; have := HNn6.out; omega)
      clear HR HNn6
      obtain ⟨M, hM⟩ : ∃ M : List UInt8, M = [4] ++ be 4 se ++ be 4 pc ++ be 4 pb ++ be 4 pn ++ be 4 cn := ⟨_, rfl⟩
      have HM := Lib.hid hM
      rw [← hM] at HN
      clear hM
      have C := blk_says HN.out.fr
      simp only [cellsSay, Nat.reduceAdd, and_true] at C
      obtain rfl : cb = 1 := HCb.out
      go_upto_region 22 with (at_builtin; go_must (refine appBL _ rfl (.tmp 72) (.tmp 74) rfl (w.heap.size + 1) _ M rfl (HN.out.own.alloc _) W6.heap.size 1 rfl (byte_one W6) (by have := HN.out.len; have := HNn.out; omega) (by have := HN.out.siz; simp; omega) ?_); intro g7 c7 w7 hown7 hg7 hl7 hz7)
      obtain ⟨N7, hN7⟩ : ∃ n, n = M.length + 1 := ⟨_, rfl⟩
      rw [← hN7] at hown7 ⊢
      have HN7 := Lib.hid ((HN.out.go (below_alloc _ _)).gt ((Gt.refl _ _).one hg7 hl7) hown7 (by rw [hN7]; simp))
      have hNn7 : N7 ≤ 250 := by have := HN.out.len; have := HNn.out; omega
      replace HN := HN7
      replace HNn : Hid (N7 ≤ 250) := Lib.hid hNn7
      clear HN7 hown7 hg7 hl7 hz7 hN7 hNn7 C
      have C := blk_says HN.out.fr
      simp only [cellsSay, Nat.reduceAdd, and_true] at C
      have HP := Lib.hid (HN.out.nput m 2 (by decide) (by omega) (by have := HNn.out; omega))
      go_wp2_with fail
      refine HP.out.mono ?_
      clear HP C
      rintro e W8 ⟨A8, c8, N8, rfl, HR⟩
      have HNn8 : Hid (N8 = N7 + 2) := Lib.hid HR.out.1
      replace HN := Lib.hid HR.out.2.1
      replace HNn : Hid (N8 ≤ 260) := Lib.hid (by have := HNn.out; have := HNn8.out; omega)
      clear HR HNn8
      obtain ⟨M8, hM⟩ : ∃ M8 : List UInt8, M8 = M ++ [1] ++ be 2 m := ⟨_, rfl⟩
      have HM8 := Lib.hid hM
      rw [← hM] at HN
      clear hM
      have C := blk_says HN.out.fr
      simp only [cellsSay, Nat.reduceAdd, and_true] at C
      go_wp2_with (at_builtin; go_must (refine appAllL _ rfl (.tmp 82) (.tmp 85) rfl (w.heap.size + 1) _ M8 rfl HN.out.own A c l rfl (HA.out.below HN.out.top) (by have := HN.out.len; have := HNn.out; omega) HN.out.siz ?_); intro A9 c9 w9 hown9 hg9 hl9)
      go_ret2
      have HN9 := HN.out.gt ((Gt.refl _ _).app hg9 hl9) hown9 (by simp)
      have hEE : E = M8 ++ l := by rw [HE.out, HM8.out, HM.out]
      refine ⟨A9, c9, M8.length + l.length, rfl, Lib.hid ⟨?_, ?_, HN9.top⟩⟩
      · rw [hEE]; exact HN9.len
      · rw [hEE]; exact HN9.own.mono (Nat.le_succ _)
    · skip
      have C := blk_says HN.out.fr
      simp only [cellsSay, Nat.reduceAdd, and_true] at C
      have HP := Lib.hid (HN.out.nput cn 4 (by decide) (by omega) (by have := HNn.out; omega))
      go_wp2_with fail
      refine HP.out.mono ?_
      clear HP C
      rintro e W6 ⟨A6, c6, N6, rfl, HR⟩
      have HNn6 : Hid (N6 = N3 + 4) := Lib.hid HR.out.1
      replace HN := Lib.hid HR.out.2.1
      replace HNn : Hid (N6 ≤ 220) := Lib.hid (by have := HNn.out; have := HNn6.out; omega)
      clear HR HNn6
      obtain ⟨M, hM⟩ : ∃ M : List UInt8, M = [4] ++ be 4 se ++ be 4 pc ++ be 4 pb ++ be 4 pn ++ be 4 cn := ⟨_, rfl⟩
      have HM := Lib.hid hM
      rw [← hM] at HN
      clear hM
      have C := blk_says HN.out.fr
      simp only [cellsSay, Nat.reduceAdd, and_true] at C
      obtain rfl : cb = 0 := HCb.out
      go_upto_region 22 with (at_builtin; go_must (refine appBL _ rfl (.tmp 72) (.tmp 74) rfl (w.heap.size + 1) _ M rfl (HN.out.own.alloc _) W6.heap.size 0 rfl (byte_zero W6) (by have := HN.out.len; have := HNn.out; omega) (by have := HN.out.siz; simp; omega) ?_); intro g7 c7 w7 hown7 hg7 hl7 hz7)
      obtain ⟨N7, hN7⟩ : ∃ n, n = M.length + 1 := ⟨_, rfl⟩
      rw [← hN7] at hown7 ⊢
      have HN7 := Lib.hid ((HN.out.go (below_alloc _ _)).gt ((Gt.refl _ _).one hg7 hl7) hown7 (by rw [hN7]; simp))
      have hNn7 : N7 ≤ 250 := by have := HN.out.len; have := HNn.out; omega
      replace HN := HN7
      replace HNn : Hid (N7 ≤ 250) := Lib.hid hNn7
      clear HN7 hown7 hg7 hl7 hz7 hN7 hNn7 C
      have C := blk_says HN.out.fr
      simp only [cellsSay, Nat.reduceAdd, and_true] at C
      have HP := Lib.hid (HN.out.nput m 2 (by decide) (by omega) (by have := HNn.out; omega))
      go_wp2_with fail
      refine HP.out.mono ?_
      clear HP C
      rintro e W8 ⟨A8, c8, N8, rfl, HR⟩
      have HNn8 : Hid (N8 = N7 + 2) := Lib.hid HR.out.1
      replace HN := Lib.hid HR.out.2.1
      replace HNn : Hid (N8 ≤ 260) := Lib.hid (by have := HNn.out; have := HNn8.out; omega)
      clear HR HNn8
      obtain ⟨M8, hM⟩ : ∃ M8 : List UInt8, M8 = M ++ [0] ++ be 2 m := ⟨_, rfl⟩
      have HM8 := Lib.hid hM
      rw [← hM] at HN
      clear hM
      have C := blk_says HN.out.fr
      simp only [cellsSay, Nat.reduceAdd, and_true] at C
      go_wp2_with (at_builtin; go_must (refine appAllL _ rfl (.tmp 82) (.tmp 85) rfl (w.heap.size + 1) _ M8 rfl HN.out.own A c l rfl (HA.out.below HN.out.top) (by have := HN.out.len; have := HNn.out; omega) HN.out.siz ?_); intro A9 c9 w9 hown9 hg9 hl9)
      go_ret2
      have HN9 := HN.out.gt ((Gt.refl _ _).app hg9 hl9) hown9 (by simp)
      have hEE : E = M8 ++ l := by rw [HE.out, HM8.out, HM.out]
      refine ⟨A9, c9, M8.length + l.length, rfl, Lib.hid ⟨?_, ?_, HN9.top⟩⟩
      · rw [hEE]; exact HN9.len
      · rw [hEE]; exact HN9.own.mono (Nat.le_succ _)

end Go.Proofs.Ytpedobpbpomkaaa

/- Layer 11: Encode of both sides, of any note; the document's Decode of no bytes. -/
set_option linter.unusedSimpArgs false
set_option linter.unusedVariables false
namespace Go.Proofs.Ytpedobpbpomkaaa
open Go.RowKit
set_option maxRecDepth 100000

/-- what Encode answers -/
def encNR (d : NoD) : List UInt8 := if mayN d then encN d else []
def encNE (d : NoD) : Nat := if mayN d then 0 else 110
theorem encNE_two (d : NoD) : encNE d = 0 ∨ encNE d = 110 := by unfold encNE; split <;> simp
theorem encN_short {d : NoD} (h : mayN d = true) : (encN d).length ≤ 524 := by
  have h1 := encN_len d
  have h2 := hdN_le d.kd
  by_cases hk : d.kd = 4
  · have := mayN_4 h hk; omega
  · have := (mayN_l h hk).1; rw [this] at h1; simp at h1; omega
theorem encNR_len (d : NoD) : (encNR d).length ≤ 524 := by
  unfold encNR
  split
  · rename_i h; exact encN_short h
  · simp
theorem nenc_yes (d : NoD) (A : Option Addr) (c : Nat) (w : World) (hA : Bs w A d.l) (ho : d.ok) (hm : mayN d = true) :
    Calls Try.prog 23 #[.agg (noC d A c)] w fun e w' => ∃ A' c' N, e = .returned (.tuple #[.slice A' N c', .int .u16 0]) ∧ Hid (N = (encN d).length ∧ OwnB w' w.heap.size (.slice A' N c') (encN d) ∧ Below w.heap.size w w') := by
  have hk := mayN_kd hm
  rcases (show d.kd = 1 ∨ d.kd = 2 ∨ d.kd = 3 ∨ d.kd = 4 by omega) with h | h | h | h
  · exact nenc_yes1 d A c w hA ho hm h
  · exact nenc_yes2 d A c w hA ho hm h
  · exact nenc_yes3 d A c w hA ho hm h
  · exact nenc_yes4 d A c w hA ho hm h
theorem nenc_any (d : NoD) (A : Option Addr) (c : Nat) (w : World) (hA : Bs w A d.l) (ho : d.ok) (hL : d.l.length ≤ 100000) :
    Calls Try.prog 23 #[.agg (noC d A c)] w fun e w' => ∃ A' c', e = .returned (.tuple #[.slice A' (encNR d).length c', .int .u16 (encNE d : Nat)]) ∧ Hid (OwnB w' w.heap.size (.slice A' (encNR d).length c') (encNR d) ∧ Below w.heap.size w w') := by
  unfold encNR encNE
  rcases hm : mayN d with _ | _
  · refine (nenc_no d A c w hA ho hL hm).mono ?_
    rintro e w' ⟨rfl, hb⟩
    exact ⟨none, 0, rfl, Lib.hid ⟨OwnB.nil _ _, hb⟩⟩
  · refine (nenc_yes d A c w hA ho hm).mono ?_
    rintro e w' ⟨A', c', N, rfl, H⟩
    obtain ⟨rfl, h2, h3⟩ := H.out
    exact ⟨A', c', rfl, Lib.hid ⟨h2, h3⟩⟩
theorem rnenc_yes (d : NoD) (A : Option Addr) (c : Nat) (w : World) (hA : Bs w A d.l) (ho : d.ok) (hm : mayN d = true) :
    Calls Try.prog 24 #[.agg (noC d A c)] w fun e w' => ∃ A' c' N, e = .returned (.tuple #[.slice A' N c', .int .i64 0]) ∧ Hid (N = (encN d).length ∧ OwnB w' w.heap.size (.slice A' N c') (encN d) ∧ Below w.heap.size w w') := by
  have hk := mayN_kd hm
  rcases (show d.kd = 1 ∨ d.kd = 2 ∨ d.kd = 3 ∨ d.kd = 4 by omega) with h | h | h | h
  · exact rnenc_yes1 d A c w hA ho hm h
  · exact rnenc_yes2 d A c w hA ho hm h
  · exact rnenc_yes3 d A c w hA ho hm h
  · exact rnenc_yes4 d A c w hA ho hm h
theorem rnenc_any (d : NoD) (A : Option Addr) (c : Nat) (w : World) (hA : Bs w A d.l) (ho : d.ok) (hL : d.l.length ≤ 100000) :
    Calls Try.prog 24 #[.agg (noC d A c)] w fun e w' => ∃ A' c', e = .returned (.tuple #[.slice A' (encNR d).length c', .int .i64 (encNE d : Nat)]) ∧ Hid (OwnB w' w.heap.size (.slice A' (encNR d).length c') (encNR d) ∧ Below w.heap.size w w') := by
  unfold encNR encNE
  rcases hm : mayN d with _ | _
  · refine (rnenc_no d A c w hA ho hL hm).mono ?_
    rintro e w' ⟨rfl, hb⟩
    exact ⟨none, 0, rfl, Lib.hid ⟨OwnB.nil _ _, hb⟩⟩
  · refine (rnenc_yes d A c w hA ho hm).mono ?_
    rintro e w' ⟨A', c', N, rfl, H⟩
    obtain ⟨rfl, h2, h3⟩ := H.out
    exact ⟨A', c', rfl, Lib.hid ⟨h2, h3⟩⟩
theorem noC_zero (A : Option Addr) (c : Nat) : noC zeroN A c = #[.int .u8 0, .int .u32 0, .int .u32 0, .int .i64 0, .int .u64 0, .int .u32 0, .int .u32 0, .int .u32 0, .int .u32 0, .bool false, .slice A 0 c, .int .i64 0] := rfl
theorem i64_wrap {x : Nat} (h : x < 18446744073709551616) : IntKind.i64.wrap (x : Int) = i64 x := by rw [IntKind.wrap_i64]; unfold i64; split <;> omega
theorem rndec_nil (A : Option Addr) (c : Nat) (w : World) :
    Calls Try.prog 28 #[.slice A 0 c] w fun e w' => e = .returned (.tuple #[.agg (noC zeroN none 0), .int .i64 110]) ∧ Below w.heap.size w w' := by
  have HR := Lib.hid (noC_zero none 0)
  have HF := Lib.hid (Blk.new w 50 #[.int .u8 0, .int .u32 0, .int .u32 0, .int .i64 0, .int .u64 0, .int .u32 0, .int .u32 0, .int .u32 0, .int .u32 0, .bool false, .slice none 0 0, .int .i64 0])
  have C := blk_says HF.out
  simp only [cellsSay, Nat.reduceAdd, and_true] at C
  go_enter Try.func28, Try.ntmps28
  go_wp2_with fail
  refine bodyPost_ret (v := .tuple #[.agg #[.int .u8 0, .int .u32 0, .int .u32 0, .int .i64 0, .int .u64 0, .int .u32 0, .int .u32 0, .int .u32 0, .int .u32 0, .bool false, .slice none 0 0, .int .i64 0], .int .i64 110]) (by simp [results, Try.results28, go_sem, C]) rfl ⟨by rw [HR.out], ?_⟩
  exact below_alloc _ _

end Go.Proofs.Ytpedobpbpomkaaa

/- Layer 11: the document's Decode, kind 1. -/
set_option linter.unusedSimpArgs false
set_option linter.unusedVariables false
namespace Go.Proofs.Ytpedobpbpomkaaa
open Go.RowKit
set_option maxRecDepth 100000

set_option maxHeartbeats 8000000 in
theorem rndec_k1 (A : Option Addr) (c : Nat) (l : List UInt8) (w : World) (hA : Bs w A l) (hc : l.length ≤ c) (hL : l.length ≤ 100000) (x0 : UInt8) (hx0 : l[0]? = some x0) (hk : x0.toNat = 1) :
    Calls Try.prog 28 #[.slice A l.length c] w fun e w' => ∃ A' c', e = .returned (.tuple #[.agg (noC (decN l).1 A' c'), .int .i64 ((decN l).2 : Nat)]) ∧ Hid (OwnB w' w.heap.size (.slice A' (decN l).1.l.length c') (decN l).1.l ∧ Below w.heap.size w w') := by
  have hl0 : 0 < l.length := (List.getElem?_eq_some_iff.1 hx0).1
  obtain ⟨p, o, rfl⟩ := hA.cutZ hl0
  have hmx : Try.prog.follows .mixedOrders = true := by kernel_rfl
  have hkd := num_part1 hx0
  obtain ⟨se, hse⟩ : ∃ v, v = numP l 1 4 := ⟨_, rfl⟩
  have b_se : se < 4294967296 := by rw [hse]; exact numP_lt l 1 4
  have u_se : IntKind.u32.wrap (se : Int) = (se : Int) := by rw [IntKind.wrap_u32]; omega
  have HN_se : Hid (∀ W, Below w.heap.size w W → Calls Try.prog 49 #[.slice (some ⟨p, o, none⟩) l.length c, .int .i64 1, .int .i64 4] W fun e w' => e = .returned (.int .u64 (se : Nat)) ∧ w' = W) := Lib.hid (fun W hW => by rw [hse]; exact rnum11_any 1 4 _ c l W (hA.below hW) (by decide) (by decide) hL)
  obtain ⟨a5, ha5⟩ : ∃ v, v = numP l 5 4 := ⟨_, rfl⟩
  have b_a5 : a5 < 4294967296 := by rw [ha5]; exact numP_lt l 5 4
  have u_a5 : IntKind.u32.wrap (a5 : Int) = (a5 : Int) := by rw [IntKind.wrap_u32]; omega
  have HN_a5 : Hid (∀ W, Below w.heap.size w W → Calls Try.prog 49 #[.slice (some ⟨p, o, none⟩) l.length c, .int .i64 5, .int .i64 4] W fun e w' => e = .returned (.int .u64 (a5 : Nat)) ∧ w' = W) := Lib.hid (fun W hW => by rw [ha5]; exact rnum11_any 5 4 _ c l W (hA.below hW) (by decide) (by decide) hL)
  obtain ⟨a9, ha9⟩ : ∃ v, v = numP l 9 4 := ⟨_, rfl⟩
  have b_a9 : a9 < 4294967296 := by rw [ha9]; exact numP_lt l 9 4
  have u_a9 : IntKind.u32.wrap (a9 : Int) = (a9 : Int) := by rw [IntKind.wrap_u32]; omega
  have HN_a9 : Hid (∀ W, Below w.heap.size w W → Calls Try.prog 49 #[.slice (some ⟨p, o, none⟩) l.length c, .int .i64 9, .int .i64 4] W fun e w' => e = .returned (.int .u64 (a9 : Nat)) ∧ w' = W) := Lib.hid (fun W hW => by rw [ha9]; exact rnum11_any 9 4 _ c l W (hA.below hW) (by decide) (by decide) hL)
  obtain ⟨a13, ha13⟩ : ∃ v, v = numP l 13 4 := ⟨_, rfl⟩
  have b_a13 : a13 < 4294967296 := by rw [ha13]; exact numP_lt l 13 4
  have u_a13 : IntKind.u32.wrap (a13 : Int) = (a13 : Int) := by rw [IntKind.wrap_u32]; omega
  have HN_a13 : Hid (∀ W, Below w.heap.size w W → Calls Try.prog 49 #[.slice (some ⟨p, o, none⟩) l.length c, .int .i64 13, .int .i64 4] W fun e w' => e = .returned (.int .u64 (a13 : Nat)) ∧ w' = W) := Lib.hid (fun W hW => by rw [ha13]; exact rnum11_any 13 4 _ c l W (hA.below hW) (by decide) (by decide) hL)
  have hD : parP l = ⟨1, se, 0, 0, 0, 0, 0, 0, 0, false, [], 0⟩ := by
    unfold parP
    rw [hkd, hk, ← hse]
    rfl
  have hDN := decN_doc l
  have hok := parP_ok l
  rw [hD] at hDN hok
  have HDN := Lib.hid hDN
  have HOk := Lib.hid hok
  have e00 : ∀ W, Below w.heap.size w W → W.cell? ⟨p, o, none⟩ = some (.int .u8 1) := fun W hW => by
    obtain ⟨p', o', hP, hC⟩ := (hA.below hW) 0 x0 hx0
    injection hP with e1; injection e1 with e1 e2 _; subst e1; subst e2
    unfold bv at hC
    rw [hk] at hC
    exact hC
  have HE0 := Lib.hid e00
  have HA := Lib.hid hA
  have hl0i : (0 : Int) < (l.length : Int) := by omega
  have hne0 : ((l.length : Int) == 0) = false := beq_eq_false_iff_ne.2 (by omega)
  have HB0 := Lib.hid (And.intro b_se (And.intro b_a5 (And.intro b_a9 b_a13)))
  clear hA hx0 hkd hD hDN hok e00 hk hse b_se ha5 b_a5 ha9 b_a9 ha13 b_a13
  obtain ⟨w1, hw1⟩ : ∃ w1, w1 = w.alloc (.cells #[.int .u8 0, .int .u32 0, .int .u32 0, .int .i64 0, .int .u64 0, .int .u32 0, .int .u32 0, .int .u32 0, .int .u32 0, .bool false, .slice none 0 0, .int .i64 0] 50) := ⟨_, rfl⟩
  have HK : Hid (Qs w1 [qB w.heap.size 50 #[.int .u8 0, .int .u32 0, .int .u32 0, .int .i64 0, .int .u64 0, .int .u32 0, .int .u32 0, .int .u32 0, .int .u32 0, .bool false, .slice none 0 0, .int .i64 0], qW w w.heap.size (Nat.le_refl _)]) := by rw [hw1]; exact Lib.hid ((Qs.zero w).box #[.int .u8 0, .int .u32 0, .int .u32 0, .int .i64 0, .int .u64 0, .int .u32 0, .int .u32 0, .int .u32 0, .int .u32 0, .bool false, .slice none 0 0, .int .i64 0] 50)
  go_enter Try.func28, Try.ntmps28
  go_wp2_with fail
  rw [← hw1]
  clear hw1
  have hws : w.heap.size < w1.heap.size := (HK.out.blk 0).lt
  have e0 : ∀ y : More, (plus w1 y).cell? ⟨p, o, none⟩ = some (.int .u8 1) := fun y => HE0.out _ ((HK.out.top 1).trans ((plus_below w1 y).mono (HK.out.top 1).size))
  refine wp_region_fresh_tail 8 [] [4, 7] (fun k V z => if k = 4 then V = .int .u64 (se : Nat) else ∃ g, V = .pointer (some ⟨g, 0, none⟩) ∧ Blk z g 50 #[.int .u8 0, .int .u32 0, .int .u32 0, .int .i64 0, .int .u64 0, .int .u32 0, .int .u32 0, .int .u32 0, .int .u32 0, .bool false, .slice none 0 0, .int .i64 0] ∧ w1.heap.size ≤ g) hmx (by kernel_rfl) (by kernel_rfl) ?_
  simp only [List.take_succ_cons, List.take_zero, List.drop_succ_cons, List.drop_zero]
  iterate 4 (refine walkF_one none w1 rfl (by kernel_rfl) ?_; go_big_quiet_step (fail); refine wpQuiet_nil ?_)
  refine walkF_make none w1 rfl rfl rfl (by kernel_rfl) (fun x => ?_) ?_
  · refine grow_call ?_ ((HN_se.out _ ((HK.out.top 1).trans ((plus_below w1 x).mono (HK.out.top 1).size))).mono ?_)
    · simp [execOp, go_sem]
    · rintro e w4 ⟨rfl, rfl⟩
      exact ⟨_, rfl, Below.refl _ _, by simp⟩
  rintro V_se z_se hV g_se
  simp only [if_true, reduceIte, Nat.reduceEqDiff] at hV
  subst hV
  conv => arg 11; simp [Act.put]
  iterate 2 (refine walkF_one none w1 rfl (by kernel_rfl) ?_; go_big_quiet_step (fail); refine wpQuiet_nil ?_)
  refine walkF_make none w1 rfl rfl rfl (by kernel_rfl) (fun x => ?_) ?_
  · refine grow_alloc (by simp [execOp, go_sem]; rfl) ?_
    simp only [reduceIte, Nat.reduceEqDiff]
    exact ⟨_, rfl, Blk.new _ _ _, (plus_below w1 x).size⟩
  rintro V9 z9 hV g9
  simp only [reduceIte, Nat.reduceEqDiff] at hV
  obtain ⟨g, rfl, hg, hgz⟩ := hV
  conv => arg 11; simp [Act.put]
  refine walkF_end ?_
  intro w3 h0 hE
  replace HK := Lib.hid ((HK.out.go h0).cons (k := qB _ _ _) (hg.below (hE 7) hg.lt))
  have hgw : w.heap.size < g := Nat.lt_of_lt_of_le hws hgz
  clear hE hg h0 g_se g9 e0 hgz hws
  have C := HK.out.says
  simp only [sayAll, cellsSay, qB, qW, qO, Nat.reduceAdd, and_true, true_and] at C
  go_upto_region 4 with fail
  generalize hW : World.setCell _ _ _ = Wn
  have HKn := HK.out.put 0 g [(0, .int .u8 1), (1, .int .u32 0), (2, .int .u32 (se : Nat)), (3, .int .i64 0), (4, .int .u64 0), (5, .int .u32 0), (6, .int .u32 0), (7, .int .u32 0), (8, .int .u32 0), (9, .bool false), (10, .slice none 0 0), (11, .int .i64 0)] #[.int .u8 1, .int .u32 0, .int .u32 (se : Nat), .int .i64 0, .int .u64 0, .int .u32 0, .int .u32 0, .int .u32 0, .int .u32 0, .bool false, .slice none 0 0, .int .i64 0] (by simp only [apBut, apAll, qB, qW, qO, and_true, true_and]; omega)
  rw [show sets _ g [(0, .int .u8 1), (1, .int .u32 0), (2, .int .u32 (se : Nat)), (3, .int .i64 0), (4, .int .u64 0), (5, .int .u32 0), (6, .int .u32 0), (7, .int .u32 0), (8, .int .u32 0), (9, .bool false), (10, .slice none 0 0), (11, .int .i64 0)] = Wn from hW] at HKn
  replace HK := Lib.hid HKn
  simp only [List.set] at HK
  clear hW HKn C
  have C := HK.out.says
  simp only [sayAll, cellsSay, qB, qW, qO, Nat.reduceAdd, and_true, true_and] at C
  go_wp2_with fail
  refine (HN_a5.out _ (HK.out.top 2)).mono ?_
  rintro e w' ⟨rfl, hw⟩
  rw [hw]
  clear hw
  go_wp2_with fail
  refine (HN_a9.out _ (HK.out.top 2)).mono ?_
  rintro e w' ⟨rfl, hw⟩
  rw [hw]
  clear hw
  go_wp2_with fail
  refine (HN_a13.out _ (HK.out.top 2)).mono ?_
  rintro e w' ⟨rfl, hw⟩
  rw [hw]
  clear hw
  go_upto_region 5 with fail
  have hgp := (HK.out.blk 0).lt
  replace HK := Lib.hid (HK.out.box #[.int .u32 (a5 : Nat), .int .u32 (a9 : Nat), .int .u32 (a13 : Nat)] 24)
  clear C
  obtain ⟨Wp, hWp⟩ : ∃ W, W = World.alloc Wn (.cells #[.int .u32 (a5 : Nat), .int .u32 (a9 : Nat), .int .u32 (a13 : Nat)] 24) := ⟨_, rfl⟩
  rw [← hWp] at HK ⊢
  clear hWp
  have C := HK.out.says
  simp only [sayAll, cellsSay, qB, qW, qO, Nat.reduceAdd, and_true, true_and] at C
  have hgs := (HK.out.blk 1).lt
  go_upto_region 20 with fail
  generalize hW : World.setCell _ _ _ = Wn
  have HKn := HK.out.put 1 g [(1, .int .u32 (se : Nat)), (2, .int .u32 0)] #[.int .u8 1, .int .u32 (se : Nat), .int .u32 0, .int .i64 0, .int .u64 0, .int .u32 0, .int .u32 0, .int .u32 0, .int .u32 0, .bool false, .slice none 0 0, .int .i64 0] (by simp only [apBut, apAll, qB, qW, qO, and_true, true_and]; omega)
  rw [show sets _ g [(1, .int .u32 (se : Nat)), (2, .int .u32 0)] = Wn from hW] at HKn
  replace HK := Lib.hid HKn
  simp only [List.set] at HK
  clear hW HKn C
  have C := HK.out.says
  simp only [sayAll, cellsSay, qB, qW, qO, Nat.reduceAdd, and_true, true_and] at C
  cases hmay : mayN ⟨1, se, 0, 0, 0, 0, 0, 0, 0, false, [], 0⟩
  · have hEn := fun (W : World) (hb : Bs W none []) => rnenc_no ⟨1, se, 0, 0, 0, 0, 0, 0, 0, false, [], 0⟩ none 0 W hb HOk.out (by simp only [List.length_nil]; omega) hmay
    have HD2 : Hid (decN l = (zeroN, 110)) := Lib.hid (by rw [HDN.out, if_neg]; rw [hmay]; simp)
    simp only [noC, List.length_nil] at hEn
    have HEn := Lib.hid hEn
    clear hEn hmay
    go_wp2_with fail
    refine (HEn.out _ (Bs.nil _ _)).mono ?_
    clear HEn
    rintro e w10 ⟨rfl, b10⟩
    replace HK := Lib.hid (HK.out.go b10)
    clear b10 C
    have C := HK.out.says
    simp only [sayAll, cellsSay, qB, qW, qO, Nat.reduceAdd, and_true, true_and] at C
    go_wp2_with fail
    generalize hW : World.setCell _ _ _ = Wn2
    have HKn := HK.out.put 2 w.heap.size [(0, .int .u8 0), (1, .int .u32 0), (2, .int .u32 0), (3, .int .i64 0), (4, .int .u64 0), (5, .int .u32 0), (6, .int .u32 0), (7, .int .u32 0), (8, .int .u32 0), (9, .bool false), (10, .slice none 0 0), (11, .int .i64 0)] #[.int .u8 0, .int .u32 0, .int .u32 0, .int .i64 0, .int .u64 0, .int .u32 0, .int .u32 0, .int .u32 0, .int .u32 0, .bool false, .slice none 0 0, .int .i64 0] (by simp only [apBut, apAll, qB, qW, qO, and_true, true_and]; omega)
    rw [show sets _ w.heap.size [(0, .int .u8 0), (1, .int .u32 0), (2, .int .u32 0), (3, .int .i64 0), (4, .int .u64 0), (5, .int .u32 0), (6, .int .u32 0), (7, .int .u32 0), (8, .int .u32 0), (9, .bool false), (10, .slice none 0 0), (11, .int .i64 0)] = Wn2 from hW] at HKn
    simp only [List.set] at HKn
    replace HK := Lib.hid HKn
    clear hW HKn C
    have C := HK.out.says
    simp only [sayAll, cellsSay, qB, qW, qO, Nat.reduceAdd, and_true, true_and] at C
    refine bodyPost_ret (v := .tuple #[.agg #[.int .u8 0, .int .u32 0, .int .u32 0, .int .i64 0, .int .u64 0, .int .u32 0, .int .u32 0, .int .u32 0, .int .u32 0, .bool false, .slice none 0 0, .int .i64 0], .int .i64 110]) (by simp [results, Try.results28, go_sem, C]) rfl ⟨none, 0, by rw [HD2.out]; rfl, Lib.hid ⟨by rw [HD2.out]; exact OwnB.nil _ _, HK.out.top 3⟩⟩
  · obtain ⟨E, hE⟩ : ∃ E, E = encN ⟨1, se, 0, 0, 0, 0, 0, 0, 0, false, [], 0⟩ := ⟨_, rfl⟩
    have hEn := fun (W : World) (hb : Bs W none []) => rnenc_yes ⟨1, se, 0, 0, 0, 0, 0, 0, 0, false, [], 0⟩ none 0 W hb HOk.out hmay
    have hD3 := HDN.out
    rw [hmay, ← hE] at hD3
    simp only [← hE] at hEn
    have HD3 := Lib.hid hD3
    simp only [noC, List.length_nil] at hEn
    have HEn := Lib.hid hEn
    clear hEn hmay hE hD3
    go_wp2_with fail
    refine (HEn.out _ (Bs.nil _ _)).mono ?_
    clear HEn
    rintro e w10 ⟨A10, c10, N10, rfl, H10⟩
    obtain ⟨rfl, hO10, b10⟩ := H10.out
    replace HK := Lib.hid (HK.out.go b10)
    have s1 := str_of hO10.bs c10
    have s2 := str_of (HA.out.below (HK.out.top 3)) c
    clear hO10 b10 H10 C
    have C := HK.out.says
    simp only [sayAll, cellsSay, qB, qW, qO, Nat.reduceAdd, and_true, true_and] at C
    by_cases hEl2 : E = l
    · have hsne : (E == l) = true := by simp [hEl2]
      have HD2 : Hid (decN l = (⟨1, se, 0, 0, 0, 0, 0, 0, 0, false, [], 0⟩, 0)) := Lib.hid (by rw [HD3.out, if_pos (by simp [hEl2])])
      clear hEl2
      go_wp2_with fail
      generalize hW : World.setCell _ _ _ = Wn2
      have HKn := HK.out.put 2 w.heap.size [(0, .int .u8 1), (1, .int .u32 (se : Nat)), (2, .int .u32 0), (3, .int .i64 0), (4, .int .u64 0), (5, .int .u32 0), (6, .int .u32 0), (7, .int .u32 0), (8, .int .u32 0), (9, .bool false), (10, .slice none 0 0), (11, .int .i64 0)] #[.int .u8 1, .int .u32 (se : Nat), .int .u32 0, .int .i64 0, .int .u64 0, .int .u32 0, .int .u32 0, .int .u32 0, .int .u32 0, .bool false, .slice none 0 0, .int .i64 0] (by simp only [apBut, apAll, qB, qW, qO, and_true, true_and]; omega)
      rw [show sets _ w.heap.size [(0, .int .u8 1), (1, .int .u32 (se : Nat)), (2, .int .u32 0), (3, .int .i64 0), (4, .int .u64 0), (5, .int .u32 0), (6, .int .u32 0), (7, .int .u32 0), (8, .int .u32 0), (9, .bool false), (10, .slice none 0 0), (11, .int .i64 0)] = Wn2 from hW] at HKn
      simp only [List.set] at HKn
      replace HK := Lib.hid HKn
      clear hW HKn C
      have C := HK.out.says
      simp only [sayAll, cellsSay, qB, qW, qO, Nat.reduceAdd, and_true, true_and] at C
      refine bodyPost_ret (v := .tuple #[.agg #[.int .u8 1, .int .u32 (se : Nat), .int .u32 0, .int .i64 0, .int .u64 0, .int .u32 0, .int .u32 0, .int .u32 0, .int .u32 0, .bool false, .slice none 0 0, .int .i64 0], .int .i64 0]) (by simp [results, Try.results28, go_sem, C]) rfl ⟨none, 0, by rw [HD2.out]; rfl, Lib.hid ⟨by rw [HD2.out]; exact OwnB.nil _ _, HK.out.top 3⟩⟩
    · have hsne : (E == l) = false := by simpa using hEl2
      have HD2 : Hid (decN l = (zeroN, 110)) := Lib.hid (by rw [HD3.out, if_neg (by simp [hEl2])])
      clear hEl2
      go_wp2_with fail
      generalize hW : World.setCell _ _ _ = Wn2
      have HKn := HK.out.put 2 w.heap.size [(0, .int .u8 0), (1, .int .u32 0), (2, .int .u32 0), (3, .int .i64 0), (4, .int .u64 0), (5, .int .u32 0), (6, .int .u32 0), (7, .int .u32 0), (8, .int .u32 0), (9, .bool false), (10, .slice none 0 0), (11, .int .i64 0)] #[.int .u8 0, .int .u32 0, .int .u32 0, .int .i64 0, .int .u64 0, .int .u32 0, .int .u32 0, .int .u32 0, .int .u32 0, .bool false, .slice none 0 0, .int .i64 0] (by simp only [apBut, apAll, qB, qW, qO, and_true, true_and]; omega)
      rw [show sets _ w.heap.size [(0, .int .u8 0), (1, .int .u32 0), (2, .int .u32 0), (3, .int .i64 0), (4, .int .u64 0), (5, .int .u32 0), (6, .int .u32 0), (7, .int .u32 0), (8, .int .u32 0), (9, .bool false), (10, .slice none 0 0), (11, .int .i64 0)] = Wn2 from hW] at HKn
      simp only [List.set] at HKn
      replace HK := Lib.hid HKn
      clear hW HKn C
      have C := HK.out.says
      simp only [sayAll, cellsSay, qB, qW, qO, Nat.reduceAdd, and_true, true_and] at C
      refine bodyPost_ret (v := .tuple #[.agg #[.int .u8 0, .int .u32 0, .int .u32 0, .int .i64 0, .int .u64 0, .int .u32 0, .int .u32 0, .int .u32 0, .int .u32 0, .bool false, .slice none 0 0, .int .i64 0], .int .i64 110]) (by simp [results, Try.results28, go_sem, C]) rfl ⟨none, 0, by rw [HD2.out]; rfl, Lib.hid ⟨by rw [HD2.out]; exact OwnB.nil _ _, HK.out.top 3⟩⟩

end Go.Proofs.Ytpedobpbpomkaaa

/- Layer 11: the document's Decode, kind 2. -/
set_option linter.unusedSimpArgs false
set_option linter.unusedVariables false
namespace Go.Proofs.Ytpedobpbpomkaaa
open Go.RowKit
set_option maxRecDepth 100000

set_option maxHeartbeats 8000000 in
theorem rndec_k2 (A : Option Addr) (c : Nat) (l : List UInt8) (w : World) (hA : Bs w A l) (hc : l.length ≤ c) (hL : l.length ≤ 100000) (x0 : UInt8) (hx0 : l[0]? = some x0) (hk : x0.toNat = 2) :
    Calls Try.prog 28 #[.slice A l.length c] w fun e w' => ∃ A' c', e = .returned (.tuple #[.agg (noC (decN l).1 A' c'), .int .i64 ((decN l).2 : Nat)]) ∧ Hid (OwnB w' w.heap.size (.slice A' (decN l).1.l.length c') (decN l).1.l ∧ Below w.heap.size w w') := by
  have hl0 : 0 < l.length := (List.getElem?_eq_some_iff.1 hx0).1
  obtain ⟨p, o, rfl⟩ := hA.cutZ hl0
  have hmx : Try.prog.follows .mixedOrders = true := by kernel_rfl
  have hkd := num_part1 hx0
  obtain ⟨se, hse⟩ : ∃ v, v = numP l 1 4 := ⟨_, rfl⟩
  have b_se : se < 4294967296 := by rw [hse]; exact numP_lt l 1 4
  have u_se : IntKind.u32.wrap (se : Int) = (se : Int) := by rw [IntKind.wrap_u32]; omega
  have HN_se : Hid (∀ W, Below w.heap.size w W → Calls Try.prog 49 #[.slice (some ⟨p, o, none⟩) l.length c, .int .i64 1, .int .i64 4] W fun e w' => e = .returned (.int .u64 (se : Nat)) ∧ w' = W) := Lib.hid (fun W hW => by rw [hse]; exact rnum11_any 1 4 _ c l W (hA.below hW) (by decide) (by decide) hL)
  obtain ⟨a5, ha5⟩ : ∃ v, v = numP l 5 4 := ⟨_, rfl⟩
  have b_a5 : a5 < 4294967296 := by rw [ha5]; exact numP_lt l 5 4
  have u_a5 : IntKind.u32.wrap (a5 : Int) = (a5 : Int) := by rw [IntKind.wrap_u32]; omega
  have HN_a5 : Hid (∀ W, Below w.heap.size w W → Calls Try.prog 49 #[.slice (some ⟨p, o, none⟩) l.length c, .int .i64 5, .int .i64 4] W fun e w' => e = .returned (.int .u64 (a5 : Nat)) ∧ w' = W) := Lib.hid (fun W hW => by rw [ha5]; exact rnum11_any 5 4 _ c l W (hA.below hW) (by decide) (by decide) hL)
  obtain ⟨a9, ha9⟩ : ∃ v, v = numP l 9 4 := ⟨_, rfl⟩
  have b_a9 : a9 < 4294967296 := by rw [ha9]; exact numP_lt l 9 4
  have u_a9 : IntKind.u32.wrap (a9 : Int) = (a9 : Int) := by rw [IntKind.wrap_u32]; omega
  have HN_a9 : Hid (∀ W, Below w.heap.size w W → Calls Try.prog 49 #[.slice (some ⟨p, o, none⟩) l.length c, .int .i64 9, .int .i64 4] W fun e w' => e = .returned (.int .u64 (a9 : Nat)) ∧ w' = W) := Lib.hid (fun W hW => by rw [ha9]; exact rnum11_any 9 4 _ c l W (hA.below hW) (by decide) (by decide) hL)
  obtain ⟨a13, ha13⟩ : ∃ v, v = numP l 13 4 := ⟨_, rfl⟩
  have b_a13 : a13 < 4294967296 := by rw [ha13]; exact numP_lt l 13 4
  have u_a13 : IntKind.u32.wrap (a13 : Int) = (a13 : Int) := by rw [IntKind.wrap_u32]; omega
  have HN_a13 : Hid (∀ W, Below w.heap.size w W → Calls Try.prog 49 #[.slice (some ⟨p, o, none⟩) l.length c, .int .i64 13, .int .i64 4] W fun e w' => e = .returned (.int .u64 (a13 : Nat)) ∧ w' = W) := Lib.hid (fun W hW => by rw [ha13]; exact rnum11_any 13 4 _ c l W (hA.below hW) (by decide) (by decide) hL)
  obtain ⟨t5, ht5⟩ : ∃ v, v = numP l 5 8 := ⟨_, rfl⟩
  have b_t5 : t5 < 18446744073709551616 := by rw [ht5]; exact numP_lt l 5 8
  have u_t5 : IntKind.i64.wrap (t5 : Int) = i64 t5 := i64_wrap b_t5
  obtain ⟨ts, hts⟩ : ∃ t, t = i64 t5 := ⟨_, rfl⟩
  rw [← hts] at u_t5
  have HN_t5 : Hid (∀ W, Below w.heap.size w W → Calls Try.prog 49 #[.slice (some ⟨p, o, none⟩) l.length c, .int .i64 5, .int .i64 8] W fun e w' => e = .returned (.int .u64 (t5 : Nat)) ∧ w' = W) := Lib.hid (fun W hW => by rw [ht5]; exact rnum11_any 5 8 _ c l W (hA.below hW) (by decide) (by decide) hL)
  obtain ⟨v13, hv13⟩ : ∃ v, v = numP l 13 8 := ⟨_, rfl⟩
  have b_v13 : v13 < 18446744073709551616 := by rw [hv13]; exact numP_lt l 13 8
  have HN_v13 : Hid (∀ W, Below w.heap.size w W → Calls Try.prog 49 #[.slice (some ⟨p, o, none⟩) l.length c, .int .i64 13, .int .i64 8] W fun e w' => e = .returned (.int .u64 (v13 : Nat)) ∧ w' = W) := Lib.hid (fun W hW => by rw [hv13]; exact rnum11_any 13 8 _ c l W (hA.below hW) (by decide) (by decide) hL)
  have hD : parP l = ⟨2, 0, se, ts, v13, 0, 0, 0, 0, false, [], 0⟩ := by
    unfold parP
    rw [hkd, hk, ← hse, ← ht5, ← hv13, ← hts]
    rfl
  have hDN := decN_doc l
  have hok := parP_ok l
  rw [hD] at hDN hok
  have HDN := Lib.hid hDN
  have HOk := Lib.hid hok
  have e00 : ∀ W, Below w.heap.size w W → W.cell? ⟨p, o, none⟩ = some (.int .u8 2) := fun W hW => by
    obtain ⟨p', o', hP, hC⟩ := (hA.below hW) 0 x0 hx0
    injection hP with e1; injection e1 with e1 e2 _; subst e1; subst e2
    unfold bv at hC
    rw [hk] at hC
    exact hC
  have HE0 := Lib.hid e00
  have HA := Lib.hid hA
  have hl0i : (0 : Int) < (l.length : Int) := by omega
  have hne0 : ((l.length : Int) == 0) = false := beq_eq_false_iff_ne.2 (by omega)
  have HB0 := Lib.hid (And.intro b_se (And.intro b_a5 (And.intro b_a9 (And.intro b_a13 (And.intro b_t5 b_v13)))))
  clear hA hx0 hkd hD hDN hok e00 hk hse b_se ha5 b_a5 ha9 b_a9 ha13 b_a13 ht5 b_t5 hv13 b_v13 hts
  obtain ⟨w1, hw1⟩ : ∃ w1, w1 = w.alloc (.cells #[.int .u8 0, .int .u32 0, .int .u32 0, .int .i64 0, .int .u64 0, .int .u32 0, .int .u32 0, .int .u32 0, .int .u32 0, .bool false, .slice none 0 0, .int .i64 0] 50) := ⟨_, rfl⟩
  have HK : Hid (Qs w1 [qB w.heap.size 50 #[.int .u8 0, .int .u32 0, .int .u32 0, .int .i64 0, .int .u64 0, .int .u32 0, .int .u32 0, .int .u32 0, .int .u32 0, .bool false, .slice none 0 0, .int .i64 0], qW w w.heap.size (Nat.le_refl _)]) := by rw [hw1]; exact Lib.hid ((Qs.zero w).box #[.int .u8 0, .int .u32 0, .int .u32 0, .int .i64 0, .int .u64 0, .int .u32 0, .int .u32 0, .int .u32 0, .int .u32 0, .bool false, .slice none 0 0, .int .i64 0] 50)
  go_enter Try.func28, Try.ntmps28
  go_wp2_with fail
  rw [← hw1]
  clear hw1
  have hws : w.heap.size < w1.heap.size := (HK.out.blk 0).lt
  have e0 : ∀ y : More, (plus w1 y).cell? ⟨p, o, none⟩ = some (.int .u8 2) := fun y => HE0.out _ ((HK.out.top 1).trans ((plus_below w1 y).mono (HK.out.top 1).size))
  refine wp_region_fresh_tail 8 [] [4, 7] (fun k V z => if k = 4 then V = .int .u64 (se : Nat) else ∃ g, V = .pointer (some ⟨g, 0, none⟩) ∧ Blk z g 50 #[.int .u8 0, .int .u32 0, .int .u32 0, .int .i64 0, .int .u64 0, .int .u32 0, .int .u32 0, .int .u32 0, .int .u32 0, .bool false, .slice none 0 0, .int .i64 0] ∧ w1.heap.size ≤ g) hmx (by kernel_rfl) (by kernel_rfl) ?_
  simp only [List.take_succ_cons, List.take_zero, List.drop_succ_cons, List.drop_zero]
  iterate 4 (refine walkF_one none w1 rfl (by kernel_rfl) ?_; go_big_quiet_step (fail); refine wpQuiet_nil ?_)
  refine walkF_make none w1 rfl rfl rfl (by kernel_rfl) (fun x => ?_) ?_
  · refine grow_call ?_ ((HN_se.out _ ((HK.out.top 1).trans ((plus_below w1 x).mono (HK.out.top 1).size))).mono ?_)
    · simp [execOp, go_sem]
    · rintro e w4 ⟨rfl, rfl⟩
      exact ⟨_, rfl, Below.refl _ _, by simp⟩
  rintro V_se z_se hV g_se
  simp only [if_true, reduceIte, Nat.reduceEqDiff] at hV
  subst hV
  conv => arg 11; simp [Act.put]
  iterate 2 (refine walkF_one none w1 rfl (by kernel_rfl) ?_; go_big_quiet_step (fail); refine wpQuiet_nil ?_)
  refine walkF_make none w1 rfl rfl rfl (by kernel_rfl) (fun x => ?_) ?_
  · refine grow_alloc (by simp [execOp, go_sem]; rfl) ?_
    simp only [reduceIte, Nat.reduceEqDiff]
    exact ⟨_, rfl, Blk.new _ _ _, (plus_below w1 x).size⟩
  rintro V9 z9 hV g9
  simp only [reduceIte, Nat.reduceEqDiff] at hV
  obtain ⟨g, rfl, hg, hgz⟩ := hV
  conv => arg 11; simp [Act.put]
  refine walkF_end ?_
  intro w3 h0 hE
  replace HK := Lib.hid ((HK.out.go h0).cons (k := qB _ _ _) (hg.below (hE 7) hg.lt))
  have hgw : w.heap.size < g := Nat.lt_of_lt_of_le hws hgz
  clear hE hg h0 g_se g9 e0 hgz hws
  have C := HK.out.says
  simp only [sayAll, cellsSay, qB, qW, qO, Nat.reduceAdd, and_true, true_and] at C
  go_upto_region 4 with fail
  generalize hW : World.setCell _ _ _ = Wn
  have HKn := HK.out.put 0 g [(0, .int .u8 2), (1, .int .u32 0), (2, .int .u32 (se : Nat)), (3, .int .i64 0), (4, .int .u64 0), (5, .int .u32 0), (6, .int .u32 0), (7, .int .u32 0), (8, .int .u32 0), (9, .bool false), (10, .slice none 0 0), (11, .int .i64 0)] #[.int .u8 2, .int .u32 0, .int .u32 (se : Nat), .int .i64 0, .int .u64 0, .int .u32 0, .int .u32 0, .int .u32 0, .int .u32 0, .bool false, .slice none 0 0, .int .i64 0] (by simp only [apBut, apAll, qB, qW, qO, and_true, true_and]; omega)
  rw [show sets _ g [(0, .int .u8 2), (1, .int .u32 0), (2, .int .u32 (se : Nat)), (3, .int .i64 0), (4, .int .u64 0), (5, .int .u32 0), (6, .int .u32 0), (7, .int .u32 0), (8, .int .u32 0), (9, .bool false), (10, .slice none 0 0), (11, .int .i64 0)] = Wn from hW] at HKn
  replace HK := Lib.hid HKn
  simp only [List.set] at HK
  clear hW HKn C
  have C := HK.out.says
  simp only [sayAll, cellsSay, qB, qW, qO, Nat.reduceAdd, and_true, true_and] at C
  go_wp2_with fail
  refine (HN_a5.out _ (HK.out.top 2)).mono ?_
  rintro e w' ⟨rfl, hw⟩
  rw [hw]
  clear hw
  go_wp2_with fail
  refine (HN_a9.out _ (HK.out.top 2)).mono ?_
  rintro e w' ⟨rfl, hw⟩
  rw [hw]
  clear hw
  go_wp2_with fail
  refine (HN_a13.out _ (HK.out.top 2)).mono ?_
  rintro e w' ⟨rfl, hw⟩
  rw [hw]
  clear hw
  go_upto_region 5 with fail
  have hgp := (HK.out.blk 0).lt
  replace HK := Lib.hid (HK.out.box #[.int .u32 (a5 : Nat), .int .u32 (a9 : Nat), .int .u32 (a13 : Nat)] 24)
  clear C
  obtain ⟨Wp, hWp⟩ : ∃ W, W = World.alloc Wn (.cells #[.int .u32 (a5 : Nat), .int .u32 (a9 : Nat), .int .u32 (a13 : Nat)] 24) := ⟨_, rfl⟩
  rw [← hWp] at HK ⊢
  clear hWp
  have C := HK.out.says
  simp only [sayAll, cellsSay, qB, qW, qO, Nat.reduceAdd, and_true, true_and] at C
  have hgs := (HK.out.blk 1).lt
  go_wp2_with fail
  refine (HN_t5.out _ (HK.out.top 3)).mono ?_
  rintro e w' ⟨rfl, hw⟩
  rw [hw]
  clear hw
  go_wp2_with fail
  refine (HN_v13.out _ (HK.out.top 3)).mono ?_
  rintro e w' ⟨rfl, hw⟩
  rw [hw]
  clear hw
  go_upto_region 20 with fail
  generalize hW : World.setCell _ _ _ = Wn
  have HKn := HK.out.put 1 g [(3, .int .i64 ts), (4, .int .u64 (v13 : Nat))] #[.int .u8 2, .int .u32 0, .int .u32 (se : Nat), .int .i64 ts, .int .u64 (v13 : Nat), .int .u32 0, .int .u32 0, .int .u32 0, .int .u32 0, .bool false, .slice none 0 0, .int .i64 0] (by simp only [apBut, apAll, qB, qW, qO, and_true, true_and]; omega)
  rw [show sets _ g [(3, .int .i64 ts), (4, .int .u64 (v13 : Nat))] = Wn from hW] at HKn
  replace HK := Lib.hid HKn
  simp only [List.set] at HK
  clear hW HKn C
  have C := HK.out.says
  simp only [sayAll, cellsSay, qB, qW, qO, Nat.reduceAdd, and_true, true_and] at C
  cases hmay : mayN ⟨2, 0, se, ts, v13, 0, 0, 0, 0, false, [], 0⟩
  · have hEn := fun (W : World) (hb : Bs W none []) => rnenc_no ⟨2, 0, se, ts, v13, 0, 0, 0, 0, false, [], 0⟩ none 0 W hb HOk.out (by simp only [List.length_nil]; omega) hmay
    have HD2 : Hid (decN l = (zeroN, 110)) := Lib.hid (by rw [HDN.out, if_neg]; rw [hmay]; simp)
    simp only [noC, List.length_nil] at hEn
    have HEn := Lib.hid hEn
    clear hEn hmay
    go_wp2_with fail
    refine (HEn.out _ (Bs.nil _ _)).mono ?_
    clear HEn
    rintro e w10 ⟨rfl, b10⟩
    replace HK := Lib.hid (HK.out.go b10)
    clear b10 C
    have C := HK.out.says
    simp only [sayAll, cellsSay, qB, qW, qO, Nat.reduceAdd, and_true, true_and] at C
    go_wp2_with fail
    generalize hW : World.setCell _ _ _ = Wn2
    have HKn := HK.out.put 2 w.heap.size [(0, .int .u8 0), (1, .int .u32 0), (2, .int .u32 0), (3, .int .i64 0), (4, .int .u64 0), (5, .int .u32 0), (6, .int .u32 0), (7, .int .u32 0), (8, .int .u32 0), (9, .bool false), (10, .slice none 0 0), (11, .int .i64 0)] #[.int .u8 0, .int .u32 0, .int .u32 0, .int .i64 0, .int .u64 0, .int .u32 0, .int .u32 0, .int .u32 0, .int .u32 0, .bool false, .slice none 0 0, .int .i64 0] (by simp only [apBut, apAll, qB, qW, qO, and_true, true_and]; omega)
    rw [show sets _ w.heap.size [(0, .int .u8 0), (1, .int .u32 0), (2, .int .u32 0), (3, .int .i64 0), (4, .int .u64 0), (5, .int .u32 0), (6, .int .u32 0), (7, .int .u32 0), (8, .int .u32 0), (9, .bool false), (10, .slice none 0 0), (11, .int .i64 0)] = Wn2 from hW] at HKn
    simp only [List.set] at HKn
    replace HK := Lib.hid HKn
    clear hW HKn C
    have C := HK.out.says
    simp only [sayAll, cellsSay, qB, qW, qO, Nat.reduceAdd, and_true, true_and] at C
    refine bodyPost_ret (v := .tuple #[.agg #[.int .u8 0, .int .u32 0, .int .u32 0, .int .i64 0, .int .u64 0, .int .u32 0, .int .u32 0, .int .u32 0, .int .u32 0, .bool false, .slice none 0 0, .int .i64 0], .int .i64 110]) (by simp [results, Try.results28, go_sem, C]) rfl ⟨none, 0, by rw [HD2.out]; rfl, Lib.hid ⟨by rw [HD2.out]; exact OwnB.nil _ _, HK.out.top 3⟩⟩
  · obtain ⟨E, hE⟩ : ∃ E, E = encN ⟨2, 0, se, ts, v13, 0, 0, 0, 0, false, [], 0⟩ := ⟨_, rfl⟩
    have hEn := fun (W : World) (hb : Bs W none []) => rnenc_yes ⟨2, 0, se, ts, v13, 0, 0, 0, 0, false, [], 0⟩ none 0 W hb HOk.out hmay
    have hD3 := HDN.out
    rw [hmay, ← hE] at hD3
    simp only [← hE] at hEn
    have HD3 := Lib.hid hD3
    simp only [noC, List.length_nil] at hEn
    have HEn := Lib.hid hEn
    clear hEn hmay hE hD3
    go_wp2_with fail
    refine (HEn.out _ (Bs.nil _ _)).mono ?_
    clear HEn
    rintro e w10 ⟨A10, c10, N10, rfl, H10⟩
    obtain ⟨rfl, hO10, b10⟩ := H10.out
    replace HK := Lib.hid (HK.out.go b10)
    have s1 := str_of hO10.bs c10
    have s2 := str_of (HA.out.below (HK.out.top 3)) c
    clear hO10 b10 H10 C
    have C := HK.out.says
    simp only [sayAll, cellsSay, qB, qW, qO, Nat.reduceAdd, and_true, true_and] at C
    by_cases hEl2 : E = l
    · have hsne : (E == l) = true := by simp [hEl2]
      have HD2 : Hid (decN l = (⟨2, 0, se, ts, v13, 0, 0, 0, 0, false, [], 0⟩, 0)) := Lib.hid (by rw [HD3.out, if_pos (by simp [hEl2])])
      clear hEl2
      go_wp2_with fail
      generalize hW : World.setCell _ _ _ = Wn2
      have HKn := HK.out.put 2 w.heap.size [(0, .int .u8 2), (1, .int .u32 0), (2, .int .u32 (se : Nat)), (3, .int .i64 ts), (4, .int .u64 (v13 : Nat)), (5, .int .u32 0), (6, .int .u32 0), (7, .int .u32 0), (8, .int .u32 0), (9, .bool false), (10, .slice none 0 0), (11, .int .i64 0)] #[.int .u8 2, .int .u32 0, .int .u32 (se : Nat), .int .i64 ts, .int .u64 (v13 : Nat), .int .u32 0, .int .u32 0, .int .u32 0, .int .u32 0, .bool false, .slice none 0 0, .int .i64 0] (by simp only [apBut, apAll, qB, qW, qO, and_true, true_and]; omega)
      rw [show sets _ w.heap.size [(0, .int .u8 2), (1, .int .u32 0), (2, .int .u32 (se : Nat)), (3, .int .i64 ts), (4, .int .u64 (v13 : Nat)), (5, .int .u32 0), (6, .int .u32 0), (7, .int .u32 0), (8, .int .u32 0), (9, .bool false), (10, .slice none 0 0), (11, .int .i64 0)] = Wn2 from hW] at HKn
      simp only [List.set] at HKn
      replace HK := Lib.hid HKn
      clear hW HKn C
      have C := HK.out.says
      simp only [sayAll, cellsSay, qB, qW, qO, Nat.reduceAdd, and_true, true_and] at C
      refine bodyPost_ret (v := .tuple #[.agg #[.int .u8 2, .int .u32 0, .int .u32 (se : Nat), .int .i64 ts, .int .u64 (v13 : Nat), .int .u32 0, .int .u32 0, .int .u32 0, .int .u32 0, .bool false, .slice none 0 0, .int .i64 0], .int .i64 0]) (by simp [results, Try.results28, go_sem, C]) rfl ⟨none, 0, by rw [HD2.out]; rfl, Lib.hid ⟨by rw [HD2.out]; exact OwnB.nil _ _, HK.out.top 3⟩⟩
    · have hsne : (E == l) = false := by simpa using hEl2
      have HD2 : Hid (decN l = (zeroN, 110)) := Lib.hid (by rw [HD3.out, if_neg (by simp [hEl2])])
      clear hEl2
      go_wp2_with fail
      generalize hW : World.setCell _ _ _ = Wn2
      have HKn := HK.out.put 2 w.heap.size [(0, .int .u8 0), (1, .int .u32 0), (2, .int .u32 0), (3, .int .i64 0), (4, .int .u64 0), (5, .int .u32 0), (6, .int .u32 0), (7, .int .u32 0), (8, .int .u32 0), (9, .bool false), (10, .slice none 0 0), (11, .int .i64 0)] #[.int .u8 0, .int .u32 0, .int .u32 0, .int .i64 0, .int .u64 0, .int .u32 0, .int .u32 0, .int .u32 0, .int .u32 0, .bool false, .slice none 0 0, .int .i64 0] (by simp only [apBut, apAll, qB, qW, qO, and_true, true_and]; omega)
      rw [show sets _ w.heap.size [(0, .int .u8 0), (1, .int .u32 0), (2, .int .u32 0), (3, .int .i64 0), (4, .int .u64 0), (5, .int .u32 0), (6, .int .u32 0), (7, .int .u32 0), (8, .int .u32 0), (9, .bool false), (10, .slice none 0 0), (11, .int .i64 0)] = Wn2 from hW] at HKn
      simp only [List.set] at HKn
      replace HK := Lib.hid HKn
      clear hW HKn C
      have C := HK.out.says
      simp only [sayAll, cellsSay, qB, qW, qO, Nat.reduceAdd, and_true, true_and] at C
      refine bodyPost_ret (v := .tuple #[.agg #[.int .u8 0, .int .u32 0, .int .u32 0, .int .i64 0, .int .u64 0, .int .u32 0, .int .u32 0, .int .u32 0, .int .u32 0, .bool false, .slice none 0 0, .int .i64 0], .int .i64 110]) (by simp [results, Try.results28, go_sem, C]) rfl ⟨none, 0, by rw [HD2.out]; rfl, Lib.hid ⟨by rw [HD2.out]; exact OwnB.nil _ _, HK.out.top 3⟩⟩

end Go.Proofs.Ytpedobpbpomkaaa

/- Layer 11: the document's Decode, kind 3. -/
set_option linter.unusedSimpArgs false
set_option linter.unusedVariables false
namespace Go.Proofs.Ytpedobpbpomkaaa
open Go.RowKit
set_option maxRecDepth 100000

set_option maxHeartbeats 8000000 in
theorem rndec_k3 (A : Option Addr) (c : Nat) (l : List UInt8) (w : World) (hA : Bs w A l) (hc : l.length ≤ c) (hL : l.length ≤ 100000) (x0 : UInt8) (hx0 : l[0]? = some x0) (hk : x0.toNat = 3) :
    Calls Try.prog 28 #[.slice A l.length c] w fun e w' => ∃ A' c', e = .returned (.tuple #[.agg (noC (decN l).1 A' c'), .int .i64 ((decN l).2 : Nat)]) ∧ Hid (OwnB w' w.heap.size (.slice A' (decN l).1.l.length c') (decN l).1.l ∧ Below w.heap.size w w') := by
  have hl0 : 0 < l.length := (List.getElem?_eq_some_iff.1 hx0).1
  obtain ⟨p, o, rfl⟩ := hA.cutZ hl0
  have hmx : Try.prog.follows .mixedOrders = true := by kernel_rfl
  have hkd := num_part1 hx0
  obtain ⟨se, hse⟩ : ∃ v, v = numP l 1 4 := ⟨_, rfl⟩
  have b_se : se < 4294967296 := by rw [hse]; exact numP_lt l 1 4
  have u_se : IntKind.u32.wrap (se : Int) = (se : Int) := by rw [IntKind.wrap_u32]; omega
  have HN_se : Hid (∀ W, Below w.heap.size w W → Calls Try.prog 49 #[.slice (some ⟨p, o, none⟩) l.length c, .int .i64 1, .int .i64 4] W fun e w' => e = .returned (.int .u64 (se : Nat)) ∧ w' = W) := Lib.hid (fun W hW => by rw [hse]; exact rnum11_any 1 4 _ c l W (hA.below hW) (by decide) (by decide) hL)
  obtain ⟨a5, ha5⟩ : ∃ v, v = numP l 5 4 := ⟨_, rfl⟩
  have b_a5 : a5 < 4294967296 := by rw [ha5]; exact numP_lt l 5 4
  have u_a5 : IntKind.u32.wrap (a5 : Int) = (a5 : Int) := by rw [IntKind.wrap_u32]; omega
  have HN_a5 : Hid (∀ W, Below w.heap.size w W → Calls Try.prog 49 #[.slice (some ⟨p, o, none⟩) l.length c, .int .i64 5, .int .i64 4] W fun e w' => e = .returned (.int .u64 (a5 : Nat)) ∧ w' = W) := Lib.hid (fun W hW => by rw [ha5]; exact rnum11_any 5 4 _ c l W (hA.below hW) (by decide) (by decide) hL)
  obtain ⟨a9, ha9⟩ : ∃ v, v = numP l 9 4 := ⟨_, rfl⟩
  have b_a9 : a9 < 4294967296 := by rw [ha9]; exact numP_lt l 9 4
  have u_a9 : IntKind.u32.wrap (a9 : Int) = (a9 : Int) := by rw [IntKind.wrap_u32]; omega
  have HN_a9 : Hid (∀ W, Below w.heap.size w W → Calls Try.prog 49 #[.slice (some ⟨p, o, none⟩) l.length c, .int .i64 9, .int .i64 4] W fun e w' => e = .returned (.int .u64 (a9 : Nat)) ∧ w' = W) := Lib.hid (fun W hW => by rw [ha9]; exact rnum11_any 9 4 _ c l W (hA.below hW) (by decide) (by decide) hL)
  obtain ⟨a13, ha13⟩ : ∃ v, v = numP l 13 4 := ⟨_, rfl⟩
  have b_a13 : a13 < 4294967296 := by rw [ha13]; exact numP_lt l 13 4
  have u_a13 : IntKind.u32.wrap (a13 : Int) = (a13 : Int) := by rw [IntKind.wrap_u32]; omega
  have HN_a13 : Hid (∀ W, Below w.heap.size w W → Calls Try.prog 49 #[.slice (some ⟨p, o, none⟩) l.length c, .int .i64 13, .int .i64 4] W fun e w' => e = .returned (.int .u64 (a13 : Nat)) ∧ w' = W) := Lib.hid (fun W hW => by rw [ha13]; exact rnum11_any 13 4 _ c l W (hA.below hW) (by decide) (by decide) hL)
  have hD : parP l = ⟨3, 0, se, 0, 0, a5, a9, a13, 0, false, [], 0⟩ := by
    unfold parP
    rw [hkd, hk, ← hse, ← ha5, ← ha9, ← ha13]
    rfl
  have hDN := decN_doc l
  have hok := parP_ok l
  rw [hD] at hDN hok
  have HDN := Lib.hid hDN
  have HOk := Lib.hid hok
  have e00 : ∀ W, Below w.heap.size w W → W.cell? ⟨p, o, none⟩ = some (.int .u8 3) := fun W hW => by
    obtain ⟨p', o', hP, hC⟩ := (hA.below hW) 0 x0 hx0
    injection hP with e1; injection e1 with e1 e2 _; subst e1; subst e2
    unfold bv at hC
    rw [hk] at hC
    exact hC
  have HE0 := Lib.hid e00
  have HA := Lib.hid hA
  have hl0i : (0 : Int) < (l.length : Int) := by omega
  have hne0 : ((l.length : Int) == 0) = false := beq_eq_false_iff_ne.2 (by omega)
  have HB0 := Lib.hid (And.intro b_se (And.intro b_a5 (And.intro b_a9 b_a13)))
  clear hA hx0 hkd hD hDN hok e00 hk hse b_se ha5 b_a5 ha9 b_a9 ha13 b_a13
  obtain ⟨w1, hw1⟩ : ∃ w1, w1 = w.alloc (.cells #[.int .u8 0, .int .u32 0, .int .u32 0, .int .i64 0, .int .u64 0, .int .u32 0, .int .u32 0, .int .u32 0, .int .u32 0, .bool false, .slice none 0 0, .int .i64 0] 50) := ⟨_, rfl⟩
  have HK : Hid (Qs w1 [qB w.heap.size 50 #[.int .u8 0, .int .u32 0, .int .u32 0, .int .i64 0, .int .u64 0, .int .u32 0, .int .u32 0, .int .u32 0, .int .u32 0, .bool false, .slice none 0 0, .int .i64 0], qW w w.heap.size (Nat.le_refl _)]) := by rw [hw1]; exact Lib.hid ((Qs.zero w).box #[.int .u8 0, .int .u32 0, .int .u32 0, .int .i64 0, .int .u64 0, .int .u32 0, .int .u32 0, .int .u32 0, .int .u32 0, .bool false, .slice none 0 0, .int .i64 0] 50)
  go_enter Try.func28, Try.ntmps28
  go_wp2_with fail
  rw [← hw1]
  clear hw1
  have hws : w.heap.size < w1.heap.size := (HK.out.blk 0).lt
  have e0 : ∀ y : More, (plus w1 y).cell? ⟨p, o, none⟩ = some (.int .u8 3) := fun y => HE0.out _ ((HK.out.top 1).trans ((plus_below w1 y).mono (HK.out.top 1).size))
  refine wp_region_fresh_tail 8 [] [4, 7] (fun k V z => if k = 4 then V = .int .u64 (se : Nat) else ∃ g, V = .pointer (some ⟨g, 0, none⟩) ∧ Blk z g 50 #[.int .u8 0, .int .u32 0, .int .u32 0, .int .i64 0, .int .u64 0, .int .u32 0, .int .u32 0, .int .u32 0, .int .u32 0, .bool false, .slice none 0 0, .int .i64 0] ∧ w1.heap.size ≤ g) hmx (by kernel_rfl) (by kernel_rfl) ?_
  simp only [List.take_succ_cons, List.take_zero, List.drop_succ_cons, List.drop_zero]
  iterate 4 (refine walkF_one none w1 rfl (by kernel_rfl) ?_; go_big_quiet_step (fail); refine wpQuiet_nil ?_)
  refine walkF_make none w1 rfl rfl rfl (by kernel_rfl) (fun x => ?_) ?_
  · refine grow_call ?_ ((HN_se.out _ ((HK.out.top 1).trans ((plus_below w1 x).mono (HK.out.top 1).size))).mono ?_)
    · simp [execOp, go_sem]
    · rintro e w4 ⟨rfl, rfl⟩
      exact ⟨_, rfl, Below.refl _ _, by simp⟩
  rintro V_se z_se hV g_se
  simp only [if_true, reduceIte, Nat.reduceEqDiff] at hV
  subst hV
  conv => arg 11; simp [Act.put]
  iterate 2 (refine walkF_one none w1 rfl (by kernel_rfl) ?_; go_big_quiet_step (fail); refine wpQuiet_nil ?_)
  refine walkF_make none w1 rfl rfl rfl (by kernel_rfl) (fun x => ?_) ?_
  · refine grow_alloc (by simp [execOp, go_sem]; rfl) ?_
    simp only [reduceIte, Nat.reduceEqDiff]
    exact ⟨_, rfl, Blk.new _ _ _, (plus_below w1 x).size⟩
  rintro V9 z9 hV g9
  simp only [reduceIte, Nat.reduceEqDiff] at hV
  obtain ⟨g, rfl, hg, hgz⟩ := hV
  conv => arg 11; simp [Act.put]
  refine walkF_end ?_
  intro w3 h0 hE
  replace HK := Lib.hid ((HK.out.go h0).cons (k := qB _ _ _) (hg.below (hE 7) hg.lt))
  have hgw : w.heap.size < g := Nat.lt_of_lt_of_le hws hgz
  clear hE hg h0 g_se g9 e0 hgz hws
  have C := HK.out.says
  simp only [sayAll, cellsSay, qB, qW, qO, Nat.reduceAdd, and_true, true_and] at C
  go_upto_region 4 with fail
  generalize hW : World.setCell _ _ _ = Wn
  have HKn := HK.out.put 0 g [(0, .int .u8 3), (1, .int .u32 0), (2, .int .u32 (se : Nat)), (3, .int .i64 0), (4, .int .u64 0), (5, .int .u32 0), (6, .int .u32 0), (7, .int .u32 0), (8, .int .u32 0), (9, .bool false), (10, .slice none 0 0), (11, .int .i64 0)] #[.int .u8 3, .int .u32 0, .int .u32 (se : Nat), .int .i64 0, .int .u64 0, .int .u32 0, .int .u32 0, .int .u32 0, .int .u32 0, .bool false, .slice none 0 0, .int .i64 0] (by simp only [apBut, apAll, qB, qW, qO, and_true, true_and]; omega)
  rw [show sets _ g [(0, .int .u8 3), (1, .int .u32 0), (2, .int .u32 (se : Nat)), (3, .int .i64 0), (4, .int .u64 0), (5, .int .u32 0), (6, .int .u32 0), (7, .int .u32 0), (8, .int .u32 0), (9, .bool false), (10, .slice none 0 0), (11, .int .i64 0)] = Wn from hW] at HKn
  replace HK := Lib.hid HKn
  simp only [List.set] at HK
  clear hW HKn C
  have C := HK.out.says
  simp only [sayAll, cellsSay, qB, qW, qO, Nat.reduceAdd, and_true, true_and] at C
  go_wp2_with fail
  refine (HN_a5.out _ (HK.out.top 2)).mono ?_
  rintro e w' ⟨rfl, hw⟩
  rw [hw]
  clear hw
  go_wp2_with fail
  refine (HN_a9.out _ (HK.out.top 2)).mono ?_
  rintro e w' ⟨rfl, hw⟩
  rw [hw]
  clear hw
  go_wp2_with fail
  refine (HN_a13.out _ (HK.out.top 2)).mono ?_
  rintro e w' ⟨rfl, hw⟩
  rw [hw]
  clear hw
  go_upto_region 5 with fail
  have hgp := (HK.out.blk 0).lt
  replace HK := Lib.hid (HK.out.box #[.int .u32 (a5 : Nat), .int .u32 (a9 : Nat), .int .u32 (a13 : Nat)] 24)
  clear C
  obtain ⟨Wp, hWp⟩ : ∃ W, W = World.alloc Wn (.cells #[.int .u32 (a5 : Nat), .int .u32 (a9 : Nat), .int .u32 (a13 : Nat)] 24) := ⟨_, rfl⟩
  rw [← hWp] at HK ⊢
  clear hWp
  have C := HK.out.says
  simp only [sayAll, cellsSay, qB, qW, qO, Nat.reduceAdd, and_true, true_and] at C
  have hgs := (HK.out.blk 1).lt
  go_upto_region 20 with fail
  generalize hW : World.setCell _ _ _ = Wn
  have HKn := HK.out.put 1 g [(5, .int .u32 (a5 : Nat)), (6, .int .u32 (a9 : Nat)), (7, .int .u32 (a13 : Nat))] #[.int .u8 3, .int .u32 0, .int .u32 (se : Nat), .int .i64 0, .int .u64 0, .int .u32 (a5 : Nat), .int .u32 (a9 : Nat), .int .u32 (a13 : Nat), .int .u32 0, .bool false, .slice none 0 0, .int .i64 0] (by simp only [apBut, apAll, qB, qW, qO, and_true, true_and]; omega)
  rw [show sets _ g [(5, .int .u32 (a5 : Nat)), (6, .int .u32 (a9 : Nat)), (7, .int .u32 (a13 : Nat))] = Wn from hW] at HKn
  replace HK := Lib.hid HKn
  simp only [List.set] at HK
  clear hW HKn C
  have C := HK.out.says
  simp only [sayAll, cellsSay, qB, qW, qO, Nat.reduceAdd, and_true, true_and] at C
  cases hmay : mayN ⟨3, 0, se, 0, 0, a5, a9, a13, 0, false, [], 0⟩
  · have hEn := fun (W : World) (hb : Bs W none []) => rnenc_no ⟨3, 0, se, 0, 0, a5, a9, a13, 0, false, [], 0⟩ none 0 W hb HOk.out (by simp only [List.length_nil]; omega) hmay
    have HD2 : Hid (decN l = (zeroN, 110)) := Lib.hid (by rw [HDN.out, if_neg]; rw [hmay]; simp)
    simp only [noC, List.length_nil] at hEn
    have HEn := Lib.hid hEn
    clear hEn hmay
    go_wp2_with fail
    refine (HEn.out _ (Bs.nil _ _)).mono ?_
    clear HEn
    rintro e w10 ⟨rfl, b10⟩
    replace HK := Lib.hid (HK.out.go b10)
    clear b10 C
    have C := HK.out.says
    simp only [sayAll, cellsSay, qB, qW, qO, Nat.reduceAdd, and_true, true_and] at C
    go_wp2_with fail
    generalize hW : World.setCell _ _ _ = Wn2
    have HKn := HK.out.put 2 w.heap.size [(0, .int .u8 0), (1, .int .u32 0), (2, .int .u32 0), (3, .int .i64 0), (4, .int .u64 0), (5, .int .u32 0), (6, .int .u32 0), (7, .int .u32 0), (8, .int .u32 0), (9, .bool false), (10, .slice none 0 0), (11, .int .i64 0)] #[.int .u8 0, .int .u32 0, .int .u32 0, .int .i64 0, .int .u64 0, .int .u32 0, .int .u32 0, .int .u32 0, .int .u32 0, .bool false, .slice none 0 0, .int .i64 0] (by simp only [apBut, apAll, qB, qW, qO, and_true, true_and]; omega)
    rw [show sets _ w.heap.size [(0, .int .u8 0), (1, .int .u32 0), (2, .int .u32 0), (3, .int .i64 0), (4, .int .u64 0), (5, .int .u32 0), (6, .int .u32 0), (7, .int .u32 0), (8, .int .u32 0), (9, .bool false), (10, .slice none 0 0), (11, .int .i64 0)] = Wn2 from hW] at HKn
    simp only [List.set] at HKn
    replace HK := Lib.hid HKn
    clear hW HKn C
    have C := HK.out.says
    simp only [sayAll, cellsSay, qB, qW, qO, Nat.reduceAdd, and_true, true_and] at C
    refine bodyPost_ret (v := .tuple #[.agg #[.int .u8 0, .int .u32 0, .int .u32 0, .int .i64 0, .int .u64 0, .int .u32 0, .int .u32 0, .int .u32 0, .int .u32 0, .bool false, .slice none 0 0, .int .i64 0], .int .i64 110]) (by simp [results, Try.results28, go_sem, C]) rfl ⟨none, 0, by rw [HD2.out]; rfl, Lib.hid ⟨by rw [HD2.out]; exact OwnB.nil _ _, HK.out.top 3⟩⟩
  · obtain ⟨E, hE⟩ : ∃ E, E = encN ⟨3, 0, se, 0, 0, a5, a9, a13, 0, false, [], 0⟩ := ⟨_, rfl⟩
    have hEn := fun (W : World) (hb : Bs W none []) => rnenc_yes ⟨3, 0, se, 0, 0, a5, a9, a13, 0, false, [], 0⟩ none 0 W hb HOk.out hmay
    have hD3 := HDN.out
    rw [hmay, ← hE] at hD3
    simp only [← hE] at hEn
    have HD3 := Lib.hid hD3
    simp only [noC, List.length_nil] at hEn
    have HEn := Lib.hid hEn
    clear hEn hmay hE hD3
    go_wp2_with fail
    refine (HEn.out _ (Bs.nil _ _)).mono ?_
    clear HEn
    rintro e w10 ⟨A10, c10, N10, rfl, H10⟩
    obtain ⟨rfl, hO10, b10⟩ := H10.out
    replace HK := Lib.hid (HK.out.go b10)
    have s1 := str_of hO10.bs c10
    have s2 := str_of (HA.out.below (HK.out.top 3)) c
    clear hO10 b10 H10 C
    have C := HK.out.says
    simp only [sayAll, cellsSay, qB, qW, qO, Nat.reduceAdd, and_true, true_and] at C
    by_cases hEl2 : E = l
    · have hsne : (E == l) = true := by simp [hEl2]
      have HD2 : Hid (decN l = (⟨3, 0, se, 0, 0, a5, a9, a13, 0, false, [], 0⟩, 0)) := Lib.hid (by rw [HD3.out, if_pos (by simp [hEl2])])
      clear hEl2
      go_wp2_with fail
      generalize hW : World.setCell _ _ _ = Wn2
      have HKn := HK.out.put 2 w.heap.size [(0, .int .u8 3), (1, .int .u32 0), (2, .int .u32 (se : Nat)), (3, .int .i64 0), (4, .int .u64 0), (5, .int .u32 (a5 : Nat)), (6, .int .u32 (a9 : Nat)), (7, .int .u32 (a13 : Nat)), (8, .int .u32 0), (9, .bool false), (10, .slice none 0 0), (11, .int .i64 0)] #[.int .u8 3, .int .u32 0, .int .u32 (se : Nat), .int .i64 0, .int .u64 0, .int .u32 (a5 : Nat), .int .u32 (a9 : Nat), .int .u32 (a13 : Nat), .int .u32 0, .bool false, .slice none 0 0, .int .i64 0] (by simp only [apBut, apAll, qB, qW, qO, and_true, true_and]; omega)
      rw [show sets _ w.heap.size [(0, .int .u8 3), (1, .int .u32 0), (2, .int .u32 (se : Nat)), (3, .int .i64 0), (4, .int .u64 0), (5, .int .u32 (a5 : Nat)), (6, .int .u32 (a9 : Nat)), (7, .int .u32 (a13 : Nat)), (8, .int .u32 0), (9, .bool false), (10, .slice none 0 0), (11, .int .i64 0)] = Wn2 from hW] at HKn
      simp only [List.set] at HKn
      replace HK := Lib.hid HKn
      clear hW HKn C
      have C := HK.out.says
      simp only [sayAll, cellsSay, qB, qW, qO, Nat.reduceAdd, and_true, true_and] at C
      refine bodyPost_ret (v := .tuple #[.agg #[.int .u8 3, .int .u32 0, .int .u32 (se : Nat), .int .i64 0, .int .u64 0, .int .u32 (a5 : Nat), .int .u32 (a9 : Nat), .int .u32 (a13 : Nat), .int .u32 0, .bool false, .slice none 0 0, .int .i64 0], .int .i64 0]) (by simp [results, Try.results28, go_sem, C]) rfl ⟨none, 0, by rw [HD2.out]; rfl, Lib.hid ⟨by rw [HD2.out]; exact OwnB.nil _ _, HK.out.top 3⟩⟩
    · have hsne : (E == l) = false := by simpa using hEl2
      have HD2 : Hid (decN l = (zeroN, 110)) := Lib.hid (by rw [HD3.out, if_neg (by simp [hEl2])])
      clear hEl2
      go_wp2_with fail
      generalize hW : World.setCell _ _ _ = Wn2
      have HKn := HK.out.put 2 w.heap.size [(0, .int .u8 0), (1, .int .u32 0), (2, .int .u32 0), (3, .int .i64 0), (4, .int .u64 0), (5, .int .u32 0), (6, .int .u32 0), (7, .int .u32 0), (8, .int .u32 0), (9, .bool false), (10, .slice none 0 0), (11, .int .i64 0)] #[.int .u8 0, .int .u32 0, .int .u32 0, .int .i64 0, .int .u64 0, .int .u32 0, .int .u32 0, .int .u32 0, .int .u32 0, .bool false, .slice none 0 0, .int .i64 0] (by simp only [apBut, apAll, qB, qW, qO, and_true, true_and]; omega)
      rw [show sets _ w.heap.size [(0, .int .u8 0), (1, .int .u32 0), (2, .int .u32 0), (3, .int .i64 0), (4, .int .u64 0), (5, .int .u32 0), (6, .int .u32 0), (7, .int .u32 0), (8, .int .u32 0), (9, .bool false), (10, .slice none 0 0), (11, .int .i64 0)] = Wn2 from hW] at HKn
      simp only [List.set] at HKn
      replace HK := Lib.hid HKn
      clear hW HKn C
      have C := HK.out.says
      simp only [sayAll, cellsSay, qB, qW, qO, Nat.reduceAdd, and_true, true_and] at C
      refine bodyPost_ret (v := .tuple #[.agg #[.int .u8 0, .int .u32 0, .int .u32 0, .int .i64 0, .int .u64 0, .int .u32 0, .int .u32 0, .int .u32 0, .int .u32 0, .bool false, .slice none 0 0, .int .i64 0], .int .i64 110]) (by simp [results, Try.results28, go_sem, C]) rfl ⟨none, 0, by rw [HD2.out]; rfl, Lib.hid ⟨by rw [HD2.out]; exact OwnB.nil _ _, HK.out.top 3⟩⟩

end Go.Proofs.Ytpedobpbpomkaaa

/- Layer 11: the document's Decode, kind 4. -/
set_option linter.unusedSimpArgs false
set_option linter.unusedVariables false
namespace Go.Proofs.Ytpedobpbpomkaaa
open Go.RowKit
set_option maxRecDepth 100000

set_option maxHeartbeats 8000000 in
theorem rndec_k4 (A : Option Addr) (c : Nat) (l : List UInt8) (w : World) (hA : Bs w A l) (hc : l.length ≤ c) (hL : l.length ≤ 100000) (x0 : UInt8) (hx0 : l[0]? = some x0) (hk : x0.toNat = 4) :
    Calls Try.prog 28 #[.slice A l.length c] w fun e w' => ∃ A' c', e = .returned (.tuple #[.agg (noC (decN l).1 A' c'), .int .i64 ((decN l).2 : Nat)]) ∧ Hid (OwnB w' w.heap.size (.slice A' (decN l).1.l.length c') (decN l).1.l ∧ Below w.heap.size w w') := by
  have hl0 : 0 < l.length := (List.getElem?_eq_some_iff.1 hx0).1
  obtain ⟨p, o, rfl⟩ := hA.cutZ hl0
  have hmx : Try.prog.follows .mixedOrders = true := by kernel_rfl
  have hkd := num_part1 hx0
  obtain ⟨se, hse⟩ : ∃ v, v = numP l 1 4 := ⟨_, rfl⟩
  have b_se : se < 4294967296 := by rw [hse]; exact numP_lt l 1 4
  have u_se : IntKind.u32.wrap (se : Int) = (se : Int) := by rw [IntKind.wrap_u32]; omega
  have HN_se : Hid (∀ W, Below w.heap.size w W → Calls Try.prog 49 #[.slice (some ⟨p, o, none⟩) l.length c, .int .i64 1, .int .i64 4] W fun e w' => e = .returned (.int .u64 (se : Nat)) ∧ w' = W) := Lib.hid (fun W hW => by rw [hse]; exact rnum11_any 1 4 _ c l W (hA.below hW) (by decide) (by decide) hL)
  obtain ⟨a5, ha5⟩ : ∃ v, v = numP l 5 4 := ⟨_, rfl⟩
  have b_a5 : a5 < 4294967296 := by rw [ha5]; exact numP_lt l 5 4
  have u_a5 : IntKind.u32.wrap (a5 : Int) = (a5 : Int) := by rw [IntKind.wrap_u32]; omega
  have HN_a5 : Hid (∀ W, Below w.heap.size w W → Calls Try.prog 49 #[.slice (some ⟨p, o, none⟩) l.length c, .int .i64 5, .int .i64 4] W fun e w' => e = .returned (.int .u64 (a5 : Nat)) ∧ w' = W) := Lib.hid (fun W hW => by rw [ha5]; exact rnum11_any 5 4 _ c l W (hA.below hW) (by decide) (by decide) hL)
  obtain ⟨a9, ha9⟩ : ∃ v, v = numP l 9 4 := ⟨_, rfl⟩
  have b_a9 : a9 < 4294967296 := by rw [ha9]; exact numP_lt l 9 4
  have u_a9 : IntKind.u32.wrap (a9 : Int) = (a9 : Int) := by rw [IntKind.wrap_u32]; omega
  have HN_a9 : Hid (∀ W, Below w.heap.size w W → Calls Try.prog 49 #[.slice (some ⟨p, o, none⟩) l.length c, .int .i64 9, .int .i64 4] W fun e w' => e = .returned (.int .u64 (a9 : Nat)) ∧ w' = W) := Lib.hid (fun W hW => by rw [ha9]; exact rnum11_any 9 4 _ c l W (hA.below hW) (by decide) (by decide) hL)
  obtain ⟨a13, ha13⟩ : ∃ v, v = numP l 13 4 := ⟨_, rfl⟩
  have b_a13 : a13 < 4294967296 := by rw [ha13]; exact numP_lt l 13 4
  have u_a13 : IntKind.u32.wrap (a13 : Int) = (a13 : Int) := by rw [IntKind.wrap_u32]; omega
  have HN_a13 : Hid (∀ W, Below w.heap.size w W → Calls Try.prog 49 #[.slice (some ⟨p, o, none⟩) l.length c, .int .i64 13, .int .i64 4] W fun e w' => e = .returned (.int .u64 (a13 : Nat)) ∧ w' = W) := Lib.hid (fun W hW => by rw [ha13]; exact rnum11_any 13 4 _ c l W (hA.below hW) (by decide) (by decide) hL)
  obtain ⟨cn, hcn⟩ : ∃ v, v = numP l 17 4 := ⟨_, rfl⟩
  have b_cn : cn < 4294967296 := by rw [hcn]; exact numP_lt l 17 4
  have u_cn : IntKind.u32.wrap (cn : Int) = (cn : Int) := by rw [IntKind.wrap_u32]; omega
  have HN_cn : Hid (∀ W, Below w.heap.size w W → Calls Try.prog 49 #[.slice (some ⟨p, o, none⟩) l.length c, .int .i64 17, .int .i64 4] W fun e w' => e = .returned (.int .u64 (cn : Nat)) ∧ w' = W) := Lib.hid (fun W hW => by rw [hcn]; exact rnum11_any 17 4 _ c l W (hA.below hW) (by decide) (by decide) hL)
  obtain ⟨cb, hcb⟩ : ∃ v, v = numP l 21 1 := ⟨_, rfl⟩
  have b_cb : cb < 256 := by rw [hcb]; exact numP_lt l 21 1
  have HN_cb : Hid (∀ W, Below w.heap.size w W → Calls Try.prog 49 #[.slice (some ⟨p, o, none⟩) l.length c, .int .i64 21, .int .i64 1] W fun e w' => e = .returned (.int .u64 (cb : Nat)) ∧ w' = W) := Lib.hid (fun W hW => by rw [hcb]; exact rnum11_any 21 1 _ c l W (hA.below hW) (by decide) (by decide) hL)
  obtain ⟨m, hm⟩ : ∃ v, v = numP l 22 2 := ⟨_, rfl⟩
  have b_m : m < 65536 := by rw [hm]; exact numP_lt l 22 2
  have u_m : IntKind.i64.wrap (m : Int) = (m : Int) := by rw [IntKind.wrap_i64]; omega
  have HN_m : Hid (∀ W, Below w.heap.size w W → Calls Try.prog 49 #[.slice (some ⟨p, o, none⟩) l.length c, .int .i64 22, .int .i64 2] W fun e w' => e = .returned (.int .u64 (m : Nat)) ∧ w' = W) := Lib.hid (fun W hW => by rw [hm]; exact rnum11_any 22 2 _ c l W (hA.below hW) (by decide) (by decide) hL)
  obtain ⟨cl, hcl⟩ : ∃ b, ((cb : Int) == 1) = b := ⟨_, rfl⟩
  obtain ⟨R, hR⟩ : ∃ R, R = l.drop 24 := ⟨_, rfl⟩
  have hD : parP l = ⟨4, 0, se, 0, 0, a5, a9, a13, cn, cl, R, (m : Nat)⟩ := by
    unfold parP
    rw [hkd, hk, ← hse, ← ha5, ← ha9, ← ha13, ← hcn, ← hcb, ← hm, ← hR]
    have hcl2 : decide (cb = 1) = cl := by rw [← hcl, Bool.eq_iff_iff, decide_eq_true_iff, beq_iff_eq]; omega
    rw [hcl2]; rfl
  have hDN := decN_doc l
  have hok := parP_ok l
  rw [hD] at hDN hok
  have HDN := Lib.hid hDN
  have HOk := Lib.hid hok
  have e00 : ∀ W, Below w.heap.size w W → W.cell? ⟨p, o, none⟩ = some (.int .u8 4) := fun W hW => by
    obtain ⟨p', o', hP, hC⟩ := (hA.below hW) 0 x0 hx0
    injection hP with e1; injection e1 with e1 e2 _; subst e1; subst e2
    unfold bv at hC
    rw [hk] at hC
    exact hC
  have HE0 := Lib.hid e00
  have HA := Lib.hid hA
  have hl0i : (0 : Int) < (l.length : Int) := by omega
  have hne0 : ((l.length : Int) == 0) = false := beq_eq_false_iff_ne.2 (by omega)
  have HRR := Lib.hid hR
  have HCl := Lib.hid hcl
  have HB0 := Lib.hid (And.intro b_se (And.intro b_a5 (And.intro b_a9 (And.intro b_a13 (And.intro b_cn (And.intro b_cb b_m))))))
  clear hA hx0 hkd hD hDN hok e00 hk hse b_se ha5 b_a5 ha9 b_a9 ha13 b_a13 hcn b_cn hcb b_cb hm b_m hR hcl
  obtain ⟨w1, hw1⟩ : ∃ w1, w1 = w.alloc (.cells #[.int .u8 0, .int .u32 0, .int .u32 0, .int .i64 0, .int .u64 0, .int .u32 0, .int .u32 0, .int .u32 0, .int .u32 0, .bool false, .slice none 0 0, .int .i64 0] 50) := ⟨_, rfl⟩
  have HK : Hid (Qs w1 [qB w.heap.size 50 #[.int .u8 0, .int .u32 0, .int .u32 0, .int .i64 0, .int .u64 0, .int .u32 0, .int .u32 0, .int .u32 0, .int .u32 0, .bool false, .slice none 0 0, .int .i64 0], qW w w.heap.size (Nat.le_refl _)]) := by rw [hw1]; exact Lib.hid ((Qs.zero w).box #[.int .u8 0, .int .u32 0, .int .u32 0, .int .i64 0, .int .u64 0, .int .u32 0, .int .u32 0, .int .u32 0, .int .u32 0, .bool false, .slice none 0 0, .int .i64 0] 50)
  go_enter Try.func28, Try.ntmps28
  go_wp2_with fail
  rw [← hw1]
  clear hw1
  have hws : w.heap.size < w1.heap.size := (HK.out.blk 0).lt
  have e0 : ∀ y : More, (plus w1 y).cell? ⟨p, o, none⟩ = some (.int .u8 4) := fun y => HE0.out _ ((HK.out.top 1).trans ((plus_below w1 y).mono (HK.out.top 1).size))
  refine wp_region_fresh_tail 8 [] [4, 7] (fun k V z => if k = 4 then V = .int .u64 (se : Nat) else ∃ g, V = .pointer (some ⟨g, 0, none⟩) ∧ Blk z g 50 #[.int .u8 0, .int .u32 0, .int .u32 0, .int .i64 0, .int .u64 0, .int .u32 0, .int .u32 0, .int .u32 0, .int .u32 0, .bool false, .slice none 0 0, .int .i64 0] ∧ w1.heap.size ≤ g) hmx (by kernel_rfl) (by kernel_rfl) ?_
  simp only [List.take_succ_cons, List.take_zero, List.drop_succ_cons, List.drop_zero]
  iterate 4 (refine walkF_one none w1 rfl (by kernel_rfl) ?_; go_big_quiet_step (fail); refine wpQuiet_nil ?_)
  refine walkF_make none w1 rfl rfl rfl (by kernel_rfl) (fun x => ?_) ?_
  · refine grow_call ?_ ((HN_se.out _ ((HK.out.top 1).trans ((plus_below w1 x).mono (HK.out.top 1).size))).mono ?_)
    · simp [execOp, go_sem]
    · rintro e w4 ⟨rfl, rfl⟩
      exact ⟨_, rfl, Below.refl _ _, by simp⟩
  rintro V_se z_se hV g_se
  simp only [if_true, reduceIte, Nat.reduceEqDiff] at hV
  subst hV
  conv => arg 11; simp [Act.put]
  iterate 2 (refine walkF_one none w1 rfl (by kernel_rfl) ?_; go_big_quiet_step (fail); refine wpQuiet_nil ?_)
  refine walkF_make none w1 rfl rfl rfl (by kernel_rfl) (fun x => ?_) ?_
  · refine grow_alloc (by simp [execOp, go_sem]; rfl) ?_
    simp only [reduceIte, Nat.reduceEqDiff]
    exact ⟨_, rfl, Blk.new _ _ _, (plus_below w1 x).size⟩
  rintro V9 z9 hV g9
  simp only [reduceIte, Nat.reduceEqDiff] at hV
  obtain ⟨g, rfl, hg, hgz⟩ := hV
  conv => arg 11; simp [Act.put]
  refine walkF_end ?_
  intro w3 h0 hE
  replace HK := Lib.hid ((HK.out.go h0).cons (k := qB _ _ _) (hg.below (hE 7) hg.lt))
  have hgw : w.heap.size < g := Nat.lt_of_lt_of_le hws hgz
  clear hE hg h0 g_se g9 e0 hgz hws
  have C := HK.out.says
  simp only [sayAll, cellsSay, qB, qW, qO, Nat.reduceAdd, and_true, true_and] at C
  go_upto_region 4 with fail
  generalize hW : World.setCell _ _ _ = Wn
  have HKn := HK.out.put 0 g [(0, .int .u8 4), (1, .int .u32 0), (2, .int .u32 (se : Nat)), (3, .int .i64 0), (4, .int .u64 0), (5, .int .u32 0), (6, .int .u32 0), (7, .int .u32 0), (8, .int .u32 0), (9, .bool false), (10, .slice none 0 0), (11, .int .i64 0)] #[.int .u8 4, .int .u32 0, .int .u32 (se : Nat), .int .i64 0, .int .u64 0, .int .u32 0, .int .u32 0, .int .u32 0, .int .u32 0, .bool false, .slice none 0 0, .int .i64 0] (by simp only [apBut, apAll, qB, qW, qO, and_true, true_and]; omega)
  rw [show sets _ g [(0, .int .u8 4), (1, .int .u32 0), (2, .int .u32 (se : Nat)), (3, .int .i64 0), (4, .int .u64 0), (5, .int .u32 0), (6, .int .u32 0), (7, .int .u32 0), (8, .int .u32 0), (9, .bool false), (10, .slice none 0 0), (11, .int .i64 0)] = Wn from hW] at HKn
  replace HK := Lib.hid HKn
  simp only [List.set] at HK
  clear hW HKn C
  have C := HK.out.says
  simp only [sayAll, cellsSay, qB, qW, qO, Nat.reduceAdd, and_true, true_and] at C
  go_wp2_with fail
  refine (HN_a5.out _ (HK.out.top 2)).mono ?_
  rintro e w' ⟨rfl, hw⟩
  rw [hw]
  clear hw
  go_wp2_with fail
  refine (HN_a9.out _ (HK.out.top 2)).mono ?_
  rintro e w' ⟨rfl, hw⟩
  rw [hw]
  clear hw
  go_wp2_with fail
  refine (HN_a13.out _ (HK.out.top 2)).mono ?_
  rintro e w' ⟨rfl, hw⟩
  rw [hw]
  clear hw
  go_upto_region 5 with fail
  have hgp := (HK.out.blk 0).lt
  replace HK := Lib.hid (HK.out.box #[.int .u32 (a5 : Nat), .int .u32 (a9 : Nat), .int .u32 (a13 : Nat)] 24)
  clear C
  obtain ⟨Wp, hWp⟩ : ∃ W, W = World.alloc Wn (.cells #[.int .u32 (a5 : Nat), .int .u32 (a9 : Nat), .int .u32 (a13 : Nat)] 24) := ⟨_, rfl⟩
  rw [← hWp] at HK ⊢
  clear hWp
  have C := HK.out.says
  simp only [sayAll, cellsSay, qB, qW, qO, Nat.reduceAdd, and_true, true_and] at C
  have hgs := (HK.out.blk 1).lt
  go_upto_region 15 with fail
  generalize hW : World.setCell _ _ _ = Wn
  have HKn := HK.out.put 1 g [(5, .int .u32 (a5 : Nat)), (6, .int .u32 (a9 : Nat)), (7, .int .u32 (a13 : Nat))] #[.int .u8 4, .int .u32 0, .int .u32 (se : Nat), .int .i64 0, .int .u64 0, .int .u32 (a5 : Nat), .int .u32 (a9 : Nat), .int .u32 (a13 : Nat), .int .u32 0, .bool false, .slice none 0 0, .int .i64 0] (by simp only [apBut, apAll, qB, qW, qO, and_true, true_and]; omega)
  rw [show sets _ g [(5, .int .u32 (a5 : Nat)), (6, .int .u32 (a9 : Nat)), (7, .int .u32 (a13 : Nat))] = Wn from hW] at HKn
  replace HK := Lib.hid HKn
  simp only [List.set] at HK
  clear hW HKn C
  have C := HK.out.says
  simp only [sayAll, cellsSay, qB, qW, qO, Nat.reduceAdd, and_true, true_and] at C
  go_wp2_with fail
  refine (HN_cn.out _ (HK.out.top 3)).mono ?_
  rintro e w' ⟨rfl, hw⟩
  rw [hw]
  clear hw
  go_upto_region 16 with fail
  generalize hW : World.setCell _ _ _ = Wn
  have HKn := HK.out.put 1 g [(8, .int .u32 (cn : Nat))] #[.int .u8 4, .int .u32 0, .int .u32 (se : Nat), .int .i64 0, .int .u64 0, .int .u32 (a5 : Nat), .int .u32 (a9 : Nat), .int .u32 (a13 : Nat), .int .u32 (cn : Nat), .bool false, .slice none 0 0, .int .i64 0] (by simp only [apBut, apAll, qB, qW, qO, and_true, true_and]; omega)
  rw [show sets _ g [(8, .int .u32 (cn : Nat))] = Wn from hW] at HKn
  replace HK := Lib.hid HKn
  simp only [List.set] at HK
  clear hW HKn C
  have C := HK.out.says
  simp only [sayAll, cellsSay, qB, qW, qO, Nat.reduceAdd, and_true, true_and] at C
  go_wp2_with fail
  refine (HN_cb.out _ (HK.out.top 3)).mono ?_
  rintro e w' ⟨rfl, hw⟩
  rw [hw]
  clear hw
  go_upto_region 17 with fail
  have hcl := HCl.out
  rw [hcl]
  clear hcl
  generalize hW : World.setCell _ _ _ = Wn
  have HKn := HK.out.put 1 g [(9, .bool cl)] #[.int .u8 4, .int .u32 0, .int .u32 (se : Nat), .int .i64 0, .int .u64 0, .int .u32 (a5 : Nat), .int .u32 (a9 : Nat), .int .u32 (a13 : Nat), .int .u32 (cn : Nat), .bool cl, .slice none 0 0, .int .i64 0] (by simp only [apBut, apAll, qB, qW, qO, and_true, true_and]; omega)
  rw [show sets _ g [(9, .bool cl)] = Wn from hW] at HKn
  replace HK := Lib.hid HKn
  simp only [List.set] at HK
  clear hW HKn C
  have C := HK.out.says
  simp only [sayAll, cellsSay, qB, qW, qO, Nat.reduceAdd, and_true, true_and] at C
  go_wp2_with fail
  refine (HN_m.out _ (HK.out.top 3)).mono ?_
  rintro e w' ⟨rfl, hw⟩
  rw [hw]
  clear hw
  go_upto_region 18 with fail
  generalize hW : World.setCell _ _ _ = Wn
  have HKn := HK.out.put 1 g [(11, .int .i64 (m : Nat))] #[.int .u8 4, .int .u32 0, .int .u32 (se : Nat), .int .i64 0, .int .u64 0, .int .u32 (a5 : Nat), .int .u32 (a9 : Nat), .int .u32 (a13 : Nat), .int .u32 (cn : Nat), .bool cl, .slice none 0 0, .int .i64 (m : Nat)] (by simp only [apBut, apAll, qB, qW, qO, and_true, true_and]; omega)
  rw [show sets _ g [(11, .int .i64 (m : Nat))] = Wn from hW] at HKn
  replace HK := Lib.hid HKn
  simp only [List.set] at HK
  clear hW HKn C
  have C := HK.out.says
  simp only [sayAll, cellsSay, qB, qW, qO, Nat.reduceAdd, and_true, true_and] at C
  by_cases hl24 : 24 < l.length
  · have hi24 : (24 : Int) < (l.length : Int) := by omega
    have hc24 : 24 < c := by omega
    have hc24i : (24 : Int) ≤ (c : Int) := by omega
    have hRn : l.length - 24 = R.length := by rw [HRR.out, List.length_drop]
    have HRn := Lib.hid hRn
    have hRl : R.length ≤ 100000 := by omega
    have HAR : Hid (∀ W, Below w.heap.size w W → Bs W (some ⟨p, o + 24, none⟩) R) := Lib.hid (fun W hW => by have h := Bs.cut (HA.out.below hW) 24 (l.length - 24); rw [List.take_of_length_le (by rw [List.length_drop]; exact Nat.le_refl _)] at h; rw [HRR.out]; exact h)
    clear hRn
    have hp := plus_cell Wn
    go_wp2_with fail
    refine wp_region_tail_ext 5 (by kernel_rfl) (by kernel_rfl) ?_
    simp only [List.take_succ_cons, List.take_zero, List.drop_succ_cons, List.drop_zero]
    repeat (go_big_quiet_step (fail))
    refine wpQuiet_nil ?_
    rintro w7 ⟨y, rfl⟩
    rw [HRn.out]
    have hz7 := plus_below Wn y
    obtain ⟨w7, hw7⟩ : ∃ W, W = plus Wn y := ⟨_, rfl⟩
    rw [← hw7] at hz7 ⊢
    replace HK := Lib.hid (HK.out.go hz7)
    clear hp hw7 hz7 C
    have hsz7 : g < w7.heap.size := (HK.out.blk 1).lt
    have hww7 : w.heap.size ≤ w7.heap.size := (HK.out.top 3).size
    have C2 := fun (W : World) (b : w7.grownBy W none) => (HK.out.blk 1).kept b (fun e => by cases e)
    go_upto_region 20 with (at_builtin; go_must (refine appAllL _ rfl (.tmp 72) (.tmp 74) rfl w7.heap.size _ [] rfl (OwnB.nil _ _) (some ⟨p, o + 24, none⟩) (c - 24) R rfl (HAR.out _ (HK.out.top 3)) (by simp; omega) (Nat.le_refl _) ?_); intro A8 c8 w8 hown8 hg8 hl8; have C8 := blk_says (C2 w8 hg8); simp only [cellsSay, Nat.reduceAdd, and_true] at C8; rw [List.nil_append, List.length_nil, Nat.zero_add] at hown8; rw [List.length_nil, Nat.zero_add])
    replace HK := Lib.hid ((HK.out.grow hg8 (fun g e => by cases e)).own_ hown8)
    clear C2 hown8 hg8 hl8 C8
    have C : True := trivial
    generalize hW : World.setCell _ _ _ = Wm
    have HKn := HK.out.put 2 g [(10, .slice A8 R.length c8)] #[.int .u8 4, .int .u32 0, .int .u32 (se : Nat), .int .i64 0, .int .u64 0, .int .u32 (a5 : Nat), .int .u32 (a9 : Nat), .int .u32 (a13 : Nat), .int .u32 (cn : Nat), .bool cl, .slice A8 R.length c8, .int .i64 (m : Nat)] (by simp only [apBut, apAll, qB, qW, qO, and_true, true_and]; omega)
    rw [show sets _ g [(10, .slice A8 R.length c8)] = Wm from hW] at HKn
    simp only [List.set] at HKn
    replace HK := Lib.hid HKn
    clear hW HKn C
    have C := HK.out.says
    simp only [sayAll, cellsSay, qB, qW, qO, Nat.reduceAdd, and_true, true_and] at C
    cases hmay : mayN ⟨4, 0, se, 0, 0, a5, a9, a13, cn, cl, R, (m : Nat)⟩
    · have hEn := fun (W : World) (hb : Bs W A8 R) => rnenc_no ⟨4, 0, se, 0, 0, a5, a9, a13, cn, cl, R, (m : Nat)⟩ A8 c8 W hb HOk.out (by simp only; omega) hmay
      have HD2 : Hid (decN l = (zeroN, 110)) := Lib.hid (by rw [HDN.out, if_neg]; rw [hmay]; simp)
      simp only [noC] at hEn
      have HEn := Lib.hid hEn
      clear hEn hmay
      go_wp2_with fail
      refine (HEn.out _ (HK.out.own 0).bs).mono ?_
      clear HEn
      rintro e w10 ⟨rfl, b10⟩
      replace HK := Lib.hid (HK.out.go b10)
      clear b10 C
      have C := HK.out.says
      simp only [sayAll, cellsSay, qB, qW, qO, Nat.reduceAdd, and_true, true_and] at C
      go_wp2_with fail
      generalize hW : World.setCell _ _ _ = Wn2
      have HKn := HK.out.put 3 w.heap.size [(0, .int .u8 0), (1, .int .u32 0), (2, .int .u32 0), (3, .int .i64 0), (4, .int .u64 0), (5, .int .u32 0), (6, .int .u32 0), (7, .int .u32 0), (8, .int .u32 0), (9, .bool false), (10, .slice none 0 0), (11, .int .i64 0)] #[.int .u8 0, .int .u32 0, .int .u32 0, .int .i64 0, .int .u64 0, .int .u32 0, .int .u32 0, .int .u32 0, .int .u32 0, .bool false, .slice none 0 0, .int .i64 0] (by simp only [apBut, apAll, qB, qW, qO, and_true, true_and]; omega)
      rw [show sets _ w.heap.size [(0, .int .u8 0), (1, .int .u32 0), (2, .int .u32 0), (3, .int .i64 0), (4, .int .u64 0), (5, .int .u32 0), (6, .int .u32 0), (7, .int .u32 0), (8, .int .u32 0), (9, .bool false), (10, .slice none 0 0), (11, .int .i64 0)] = Wn2 from hW] at HKn
      simp only [List.set] at HKn
      replace HK := Lib.hid HKn
      clear hW HKn C
      have C := HK.out.says
      simp only [sayAll, cellsSay, qB, qW, qO, Nat.reduceAdd, and_true, true_and] at C
      refine bodyPost_ret (v := .tuple #[.agg #[.int .u8 0, .int .u32 0, .int .u32 0, .int .i64 0, .int .u64 0, .int .u32 0, .int .u32 0, .int .u32 0, .int .u32 0, .bool false, .slice none 0 0, .int .i64 0], .int .i64 110]) (by simp [results, Try.results28, go_sem, C]) rfl ⟨none, 0, by rw [HD2.out]; rfl, Lib.hid ⟨by rw [HD2.out]; exact OwnB.nil _ _, HK.out.top 4⟩⟩
    · obtain ⟨E, hE⟩ : ∃ E, E = encN ⟨4, 0, se, 0, 0, a5, a9, a13, cn, cl, R, (m : Nat)⟩ := ⟨_, rfl⟩
      have hEn := fun (W : World) (hb : Bs W A8 R) => rnenc_yes ⟨4, 0, se, 0, 0, a5, a9, a13, cn, cl, R, (m : Nat)⟩ A8 c8 W hb HOk.out hmay
      have hD3 := HDN.out
      rw [hmay, ← hE] at hD3
      simp only [← hE] at hEn
      have HD3 := Lib.hid hD3
      simp only [noC] at hEn
      have HEn := Lib.hid hEn
      clear hEn hmay hE hD3
      go_wp2_with fail
      refine (HEn.out _ (HK.out.own 0).bs).mono ?_
      clear HEn
      rintro e w10 ⟨A10, c10, N10, rfl, H10⟩
      obtain ⟨rfl, hO10, b10⟩ := H10.out
      replace HK := Lib.hid (HK.out.go b10)
      have s1 := str_of hO10.bs c10
      have s2 := str_of (HA.out.below (HK.out.top 4)) c
      clear hO10 b10 H10 C
      have C := HK.out.says
      simp only [sayAll, cellsSay, qB, qW, qO, Nat.reduceAdd, and_true, true_and] at C
      by_cases hEl2 : E = l
      · have hsne : (E == l) = true := by simp [hEl2]
        have HD2 : Hid (decN l = (⟨4, 0, se, 0, 0, a5, a9, a13, cn, cl, R, (m : Nat)⟩, 0)) := Lib.hid (by rw [HD3.out, if_pos (by simp [hEl2])])
        clear hEl2
        go_wp2_with fail
        generalize hW : World.setCell _ _ _ = Wn2
        have HKn := HK.out.put 3 w.heap.size [(0, .int .u8 4), (1, .int .u32 0), (2, .int .u32 (se : Nat)), (3, .int .i64 0), (4, .int .u64 0), (5, .int .u32 (a5 : Nat)), (6, .int .u32 (a9 : Nat)), (7, .int .u32 (a13 : Nat)), (8, .int .u32 (cn : Nat)), (9, .bool cl), (10, .slice A8 R.length c8), (11, .int .i64 (m : Nat))] #[.int .u8 4, .int .u32 0, .int .u32 (se : Nat), .int .i64 0, .int .u64 0, .int .u32 (a5 : Nat), .int .u32 (a9 : Nat), .int .u32 (a13 : Nat), .int .u32 (cn : Nat), .bool cl, .slice A8 R.length c8, .int .i64 (m : Nat)] (by simp only [apBut, apAll, qB, qW, qO, and_true, true_and]; omega)
        rw [show sets _ w.heap.size [(0, .int .u8 4), (1, .int .u32 0), (2, .int .u32 (se : Nat)), (3, .int .i64 0), (4, .int .u64 0), (5, .int .u32 (a5 : Nat)), (6, .int .u32 (a9 : Nat)), (7, .int .u32 (a13 : Nat)), (8, .int .u32 (cn : Nat)), (9, .bool cl), (10, .slice A8 R.length c8), (11, .int .i64 (m : Nat))] = Wn2 from hW] at HKn
        simp only [List.set] at HKn
        replace HK := Lib.hid HKn
        clear hW HKn C
        have C := HK.out.says
        simp only [sayAll, cellsSay, qB, qW, qO, Nat.reduceAdd, and_true, true_and] at C
        refine bodyPost_ret (v := .tuple #[.agg #[.int .u8 4, .int .u32 0, .int .u32 (se : Nat), .int .i64 0, .int .u64 0, .int .u32 (a5 : Nat), .int .u32 (a9 : Nat), .int .u32 (a13 : Nat), .int .u32 (cn : Nat), .bool cl, .slice A8 R.length c8, .int .i64 (m : Nat)], .int .i64 0]) (by simp [results, Try.results28, go_sem, C]) rfl ⟨A8, c8, by rw [HD2.out]; rfl, Lib.hid ⟨by rw [HD2.out]; exact (HK.out.own 0).mono (by omega), HK.out.top 4⟩⟩
      · have hsne : (E == l) = false := by simpa using hEl2
        have HD2 : Hid (decN l = (zeroN, 110)) := Lib.hid (by rw [HD3.out, if_neg (by simp [hEl2])])
        clear hEl2
        go_wp2_with fail
        generalize hW : World.setCell _ _ _ = Wn2
        have HKn := HK.out.put 3 w.heap.size [(0, .int .u8 0), (1, .int .u32 0), (2, .int .u32 0), (3, .int .i64 0), (4, .int .u64 0), (5, .int .u32 0), (6, .int .u32 0), (7, .int .u32 0), (8, .int .u32 0), (9, .bool false), (10, .slice none 0 0), (11, .int .i64 0)] #[.int .u8 0, .int .u32 0, .int .u32 0, .int .i64 0, .int .u64 0, .int .u32 0, .int .u32 0, .int .u32 0, .int .u32 0, .bool false, .slice none 0 0, .int .i64 0] (by simp only [apBut, apAll, qB, qW, qO, and_true, true_and]; omega)
        rw [show sets _ w.heap.size [(0, .int .u8 0), (1, .int .u32 0), (2, .int .u32 0), (3, .int .i64 0), (4, .int .u64 0), (5, .int .u32 0), (6, .int .u32 0), (7, .int .u32 0), (8, .int .u32 0), (9, .bool false), (10, .slice none 0 0), (11, .int .i64 0)] = Wn2 from hW] at HKn
        simp only [List.set] at HKn
        replace HK := Lib.hid HKn
        clear hW HKn C
        have C := HK.out.says
        simp only [sayAll, cellsSay, qB, qW, qO, Nat.reduceAdd, and_true, true_and] at C
        refine bodyPost_ret (v := .tuple #[.agg #[.int .u8 0, .int .u32 0, .int .u32 0, .int .i64 0, .int .u64 0, .int .u32 0, .int .u32 0, .int .u32 0, .int .u32 0, .bool false, .slice none 0 0, .int .i64 0], .int .i64 110]) (by simp [results, Try.results28, go_sem, C]) rfl ⟨none, 0, by rw [HD2.out]; rfl, Lib.hid ⟨by rw [HD2.out]; exact OwnB.nil _ _, HK.out.top 4⟩⟩
  · obtain rfl : R = [] := by rw [HRR.out]; exact List.drop_eq_nil_of_le (by omega)
    have hi24 : ¬ (24 : Int) < (l.length : Int) := by omega
    go_upto_region 20 with fail
    cases hmay : mayN ⟨4, 0, se, 0, 0, a5, a9, a13, cn, cl, [], (m : Nat)⟩
    · have hEn := fun (W : World) (hb : Bs W none []) => rnenc_no ⟨4, 0, se, 0, 0, a5, a9, a13, cn, cl, [], (m : Nat)⟩ none 0 W hb HOk.out (by simp only [List.length_nil]; omega) hmay
      have HD2 : Hid (decN l = (zeroN, 110)) := Lib.hid (by rw [HDN.out, if_neg]; rw [hmay]; simp)
      simp only [noC, List.length_nil] at hEn
      have HEn := Lib.hid hEn
      clear hEn hmay
      go_wp2_with fail
      refine (HEn.out _ (Bs.nil _ _)).mono ?_
      clear HEn
      rintro e w10 ⟨rfl, b10⟩
      replace HK := Lib.hid (HK.out.go b10)
      clear b10 C
      have C := HK.out.says
      simp only [sayAll, cellsSay, qB, qW, qO, Nat.reduceAdd, and_true, true_and] at C
      go_wp2_with fail
      generalize hW : World.setCell _ _ _ = Wn2
      have HKn := HK.out.put 2 w.heap.size [(0, .int .u8 0), (1, .int .u32 0), (2, .int .u32 0), (3, .int .i64 0), (4, .int .u64 0), (5, .int .u32 0), (6, .int .u32 0), (7, .int .u32 0), (8, .int .u32 0), (9, .bool false), (10, .slice none 0 0), (11, .int .i64 0)] #[.int .u8 0, .int .u32 0, .int .u32 0, .int .i64 0, .int .u64 0, .int .u32 0, .int .u32 0, .int .u32 0, .int .u32 0, .bool false, .slice none 0 0, .int .i64 0] (by simp only [apBut, apAll, qB, qW, qO, and_true, true_and]; omega)
      rw [show sets _ w.heap.size [(0, .int .u8 0), (1, .int .u32 0), (2, .int .u32 0), (3, .int .i64 0), (4, .int .u64 0), (5, .int .u32 0), (6, .int .u32 0), (7, .int .u32 0), (8, .int .u32 0), (9, .bool false), (10, .slice none 0 0), (11, .int .i64 0)] = Wn2 from hW] at HKn
      simp only [List.set] at HKn
      replace HK := Lib.hid HKn
      clear hW HKn C
      have C := HK.out.says
      simp only [sayAll, cellsSay, qB, qW, qO, Nat.reduceAdd, and_true, true_and] at C
      refine bodyPost_ret (v := .tuple #[.agg #[.int .u8 0, .int .u32 0, .int .u32 0, .int .i64 0, .int .u64 0, .int .u32 0, .int .u32 0, .int .u32 0, .int .u32 0, .bool false, .slice none 0 0, .int .i64 0], .int .i64 110]) (by simp [results, Try.results28, go_sem, C]) rfl ⟨none, 0, by rw [HD2.out]; rfl, Lib.hid ⟨by rw [HD2.out]; exact OwnB.nil _ _, HK.out.top 3⟩⟩
    · obtain ⟨E, hE⟩ : ∃ E, E = encN ⟨4, 0, se, 0, 0, a5, a9, a13, cn, cl, [], (m : Nat)⟩ := ⟨_, rfl⟩
      have hEn := fun (W : World) (hb : Bs W none []) => rnenc_yes ⟨4, 0, se, 0, 0, a5, a9, a13, cn, cl, [], (m : Nat)⟩ none 0 W hb HOk.out hmay
      have hD3 := HDN.out
      rw [hmay, ← hE] at hD3
      simp only [← hE] at hEn
      have HD3 := Lib.hid hD3
      simp only [noC, List.length_nil] at hEn
      have HEn := Lib.hid hEn
      clear hEn hmay hE hD3
      go_wp2_with fail
      refine (HEn.out _ (Bs.nil _ _)).mono ?_
      clear HEn
      rintro e w10 ⟨A10, c10, N10, rfl, H10⟩
      obtain ⟨rfl, hO10, b10⟩ := H10.out
      replace HK := Lib.hid (HK.out.go b10)
      have s1 := str_of hO10.bs c10
      have s2 := str_of (HA.out.below (HK.out.top 3)) c
      clear hO10 b10 H10 C
      have C := HK.out.says
      simp only [sayAll, cellsSay, qB, qW, qO, Nat.reduceAdd, and_true, true_and] at C
      by_cases hEl2 : E = l
      · have hsne : (E == l) = true := by simp [hEl2]
        have HD2 : Hid (decN l = (⟨4, 0, se, 0, 0, a5, a9, a13, cn, cl, [], (m : Nat)⟩, 0)) := Lib.hid (by rw [HD3.out, if_pos (by simp [hEl2])])
        clear hEl2
        go_wp2_with fail
        generalize hW : World.setCell _ _ _ = Wn2
        have HKn := HK.out.put 2 w.heap.size [(0, .int .u8 4), (1, .int .u32 0), (2, .int .u32 (se : Nat)), (3, .int .i64 0), (4, .int .u64 0), (5, .int .u32 (a5 : Nat)), (6, .int .u32 (a9 : Nat)), (7, .int .u32 (a13 : Nat)), (8, .int .u32 (cn : Nat)), (9, .bool cl), (10, .slice none 0 0), (11, .int .i64 (m : Nat))] #[.int .u8 4, .int .u32 0, .int .u32 (se : Nat), .int .i64 0, .int .u64 0, .int .u32 (a5 : Nat), .int .u32 (a9 : Nat), .int .u32 (a13 : Nat), .int .u32 (cn : Nat), .bool cl, .slice none 0 0, .int .i64 (m : Nat)] (by simp only [apBut, apAll, qB, qW, qO, and_true, true_and]; omega)
        rw [show sets _ w.heap.size [(0, .int .u8 4), (1, .int .u32 0), (2, .int .u32 (se : Nat)), (3, .int .i64 0), (4, .int .u64 0), (5, .int .u32 (a5 : Nat)), (6, .int .u32 (a9 : Nat)), (7, .int .u32 (a13 : Nat)), (8, .int .u32 (cn : Nat)), (9, .bool cl), (10, .slice none 0 0), (11, .int .i64 (m : Nat))] = Wn2 from hW] at HKn
        simp only [List.set] at HKn
        replace HK := Lib.hid HKn
        clear hW HKn C
        have C := HK.out.says
        simp only [sayAll, cellsSay, qB, qW, qO, Nat.reduceAdd, and_true, true_and] at C
        refine bodyPost_ret (v := .tuple #[.agg #[.int .u8 4, .int .u32 0, .int .u32 (se : Nat), .int .i64 0, .int .u64 0, .int .u32 (a5 : Nat), .int .u32 (a9 : Nat), .int .u32 (a13 : Nat), .int .u32 (cn : Nat), .bool cl, .slice none 0 0, .int .i64 (m : Nat)], .int .i64 0]) (by simp [results, Try.results28, go_sem, C]) rfl ⟨none, 0, by rw [HD2.out]; rfl, Lib.hid ⟨by rw [HD2.out]; exact OwnB.nil _ _, HK.out.top 3⟩⟩
      · have hsne : (E == l) = false := by simpa using hEl2
        have HD2 : Hid (decN l = (zeroN, 110)) := Lib.hid (by rw [HD3.out, if_neg (by simp [hEl2])])
        clear hEl2
        go_wp2_with fail
        generalize hW : World.setCell _ _ _ = Wn2
        have HKn := HK.out.put 2 w.heap.size [(0, .int .u8 0), (1, .int .u32 0), (2, .int .u32 0), (3, .int .i64 0), (4, .int .u64 0), (5, .int .u32 0), (6, .int .u32 0), (7, .int .u32 0), (8, .int .u32 0), (9, .bool false), (10, .slice none 0 0), (11, .int .i64 0)] #[.int .u8 0, .int .u32 0, .int .u32 0, .int .i64 0, .int .u64 0, .int .u32 0, .int .u32 0, .int .u32 0, .int .u32 0, .bool false, .slice none 0 0, .int .i64 0] (by simp only [apBut, apAll, qB, qW, qO, and_true, true_and]; omega)
        rw [show sets _ w.heap.size [(0, .int .u8 0), (1, .int .u32 0), (2, .int .u32 0), (3, .int .i64 0), (4, .int .u64 0), (5, .int .u32 0), (6, .int .u32 0), (7, .int .u32 0), (8, .int .u32 0), (9, .bool false), (10, .slice none 0 0), (11, .int .i64 0)] = Wn2 from hW] at HKn
        simp only [List.set] at HKn
        replace HK := Lib.hid HKn
        clear hW HKn C
        have C := HK.out.says
        simp only [sayAll, cellsSay, qB, qW, qO, Nat.reduceAdd, and_true, true_and] at C
        refine bodyPost_ret (v := .tuple #[.agg #[.int .u8 0, .int .u32 0, .int .u32 0, .int .i64 0, .int .u64 0, .int .u32 0, .int .u32 0, .int .u32 0, .int .u32 0, .bool false, .slice none 0 0, .int .i64 0], .int .i64 110]) (by simp [results, Try.results28, go_sem, C]) rfl ⟨none, 0, by rw [HD2.out]; rfl, Lib.hid ⟨by rw [HD2.out]; exact OwnB.nil _ _, HK.out.top 3⟩⟩

end Go.Proofs.Ytpedobpbpomkaaa
