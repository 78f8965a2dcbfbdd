/- Layer 7: the chapter's example. -/
import Derived.Test.YtpedobpbpomkaaaFr17
import Derived.Deep.DeepCutAuto
set_option linter.unusedSimpArgs false
set_option linter.unusedVariables false
namespace Go.Proofs.Ytpedobpbpomkaaa
open Go.RowKit
set_option maxRecDepth 100000

/-- the example's frame, its bytes, and those with a bit changed -/
def kF : FrD := ⟨1, 1, 0, 0, 0, 0, 0, false, 0, [], 0⟩
def kE : List UInt8 := encF kF
def kE2 : List UInt8 := kE.set 5 1
theorem kF_may : mayF kF = true := by kernel_rfl
theorem kF_ok : kF.ok := by unfold FrD.ok kF; simp
theorem kE_len : kE.length = 44 := encF_len kF
theorem kE2_len : kE2.length = 44 := by unfold kE2; rw [List.length_set, kE_len]
theorem kE_dec : decF kE = (kF, 0) := dec_enc kF_ok kF_may
theorem kE_at : kE[5]? = some 0 := by
  unfold kE encF
  rw [List.getElem?_append_left (by rw [bodyF_len]; show 5 < 40 + 0; omega)]; kernel_rfl
theorem kE2_dec : decF kE2 = (zeroF, 71) := by
  have h : crcL (frontOf kE2) ≠ num (backOf kE2) := by
    intro h
    have h0 := crc_enc kF
    have e1 : frontOf kE2 = (bodyF kF).take 5 ++ 1 :: (bodyF kF).drop 6 := by
      have h1 : frontOf kE2 = (frontOf kE).set 5 1 := by unfold frontOf kE2; rw [List.length_set, List.take_set]
      rw [h1, show frontOf kE = bodyF kF from front_enc kF]; rfl
    have e0 : frontOf kE = (bodyF kF).take 5 ++ 0 :: (bodyF kF).drop 6 := by
      rw [show frontOf kE = bodyF kF from front_enc kF]; rfl
    have eb : backOf kE2 = backOf kE := by
      unfold backOf kE2
      rw [List.length_set, List.drop_set_of_lt (by rw [kE_len]; decide)]
    have h0 : crcL (frontOf kE) = num (backOf kE) := h0
    rw [eb, ← h0, e1, e0] at h
    exact absurd (crcL_byte h) (by decide)
  unfold decF
  rw [if_neg (by rw [kE2_len]; decide), if_pos h]
theorem kE2_cut : decF (kE2.take 43) = (zeroF, 70) := by
  unfold decF
  rw [if_pos (by rw [List.length_take, kE2_len]; decide)]

theorem kF_cells : frC kF none 0 = #[.int .u8 1, .int .u32 1, .int .u32 0, .int .u32 0, .int .u32 0, .int .u32 0, .int .u32 0, .bool false, .int .u64 0, .slice none 0 0, .int .i64 0] := rfl
theorem fenc_k (w : World) : Calls Try.prog 14 #[.agg #[.int .u8 1, .int .u32 1, .int .u32 0, .int .u32 0, .int .u32 0, .int .u32 0, .int .u32 0, .bool false, .int .u64 0, .slice none 0 0, .int .i64 0]] w fun e w' => ∃ g c', e = .returned (.tuple #[.slice (some ⟨g, 0, none⟩) 44 c', .int .u16 0]) ∧ Hid (44 ≤ c' ∧ w.heap.size ≤ g ∧ OwnB w' w.heap.size (.slice (some ⟨g, 0, none⟩) 44 c') kE ∧ Below w.heap.size w w') := by
  have h := fenc_yes kF none 0 w (Bs.nil _ _) kF_ok kF_may
  rw [kF_cells, show encF kF = kE from rfl, kE_len] at h
  refine h.mono ?_
  rintro e w1 ⟨A1, c1, N, rfl, H1⟩
  obtain ⟨rfl, hO, b1⟩ := H1.out
  obtain ⟨g, cap, hv, hgb, _, _⟩ := hO.form (by rw [kE_len]; decide)
  obtain ⟨A', c', he, hc, _⟩ := hO.isB
  injection hv with hv1 _ hv2
  injection he with _ _ he
  subst hv1 hv2 he
  rw [kE_len] at hc
  exact ⟨g, c1, rfl, Lib.hid ⟨hc, hgb, hO, b1⟩⟩
theorem fdec_k1 (g c : Nat) (w : World) (hA : Bs w (some ⟨g, 0, none⟩) kE) (hc : 44 ≤ c) : Calls Try.prog 19 #[.slice (some ⟨g, 0, none⟩) 44 c] w fun e w' => ∃ A' c', e = .returned (.tuple #[.agg #[.int .u8 1, .int .u32 1, .int .u32 0, .int .u32 0, .int .u32 0, .int .u32 0, .int .u32 0, .bool false, .int .u64 0, .slice A' 0 c', .int .i64 0], .int .u16 0]) ∧ Below w.heap.size w w' := by
  have h := fdec_any (some ⟨g, 0, none⟩) c kE w hA (by rw [kE_len]; exact hc) (by rw [kE_len]; decide)
  rw [kE_len, kE_dec] at h
  refine h.mono ?_
  rintro e w1 ⟨A1, c1, rfl, H1⟩
  exact ⟨A1, c1, rfl, H1.out.2⟩
theorem fdec_k2 (g c : Nat) (w : World) (hA : Bs w (some ⟨g, 0, none⟩) kE2) (hc : 44 ≤ c) : Calls Try.prog 19 #[.slice (some ⟨g, 0, none⟩) 44 c] w fun e w' => ∃ A' c', e = .returned (.tuple #[.agg #[.int .u8 0, .int .u32 0, .int .u32 0, .int .u32 0, .int .u32 0, .int .u32 0, .int .u32 0, .bool false, .int .u64 0, .slice A' 0 c', .int .i64 0], .int .u16 71]) ∧ Below w.heap.size w w' := by
  have h := fdec_any (some ⟨g, 0, none⟩) c kE2 w hA (by rw [kE2_len]; exact hc) (by rw [kE2_len]; decide)
  rw [kE2_len, kE2_dec] at h
  refine h.mono ?_
  rintro e w1 ⟨A1, c1, rfl, H1⟩
  exact ⟨A1, c1, rfl, H1.out.2⟩
theorem fdec_k3 (g c : Nat) (w : World) (hA : Bs w (some ⟨g, 0, none⟩) kE2) (hc : 43 ≤ c) : Calls Try.prog 19 #[.slice (some ⟨g, 0, none⟩) 43 c] w fun e w' => ∃ A' c', e = .returned (.tuple #[.agg #[.int .u8 0, .int .u32 0, .int .u32 0, .int .u32 0, .int .u32 0, .int .u32 0, .int .u32 0, .bool false, .int .u64 0, .slice A' 0 c', .int .i64 0], .int .u16 70]) ∧ Below w.heap.size w w' := by
  have hl : (kE2.take 43).length = 43 := by rw [List.length_take, kE2_len]; decide
  have h := fdec_any (some ⟨g, 0, none⟩) c (kE2.take 43) w (bs_takeN hA 43) (by rw [hl]; exact hc) (by rw [hl]; decide)
  rw [hl, kE2_cut] at h
  refine h.mono ?_
  rintro e w1 ⟨A1, c1, rfl, H1⟩
  exact ⟨A1, c1, rfl, H1.out.2⟩
attribute [irreducible] kE kE2
/-- a store into bytes of the call's own -/
theorem Qs.putO {w : World} {ks : List Kq} (h : Qs w ks) (i g k n cap base hi : Nat) (x : UInt8) {l : List UInt8} (ha : apBut g i ks) (e : ks[i]? = some (qO base hi (.slice (some ⟨g, 0, none⟩) n cap) l) := by rfl) : Qs (w.setCell ⟨g, k, none⟩ (bv x)) (ks.set i (qO base hi (.slice (some ⟨g, 0, none⟩) n cap) (l.set k x))) := by
  intro q hq
  obtain ⟨j, hj⟩ := List.getElem?_of_mem hq
  by_cases hji : j = i
  · subst hji
    rw [List.getElem?_set_self (List.getElem?_eq_some_iff.1 e).1] at hj
    injection hj with hj
    subst hj
    have h1 : OwnB w base (.slice (some ⟨g, 0, none⟩) n cap) l ∧ (∀ k, (Value.slice (some ⟨g, 0, none⟩) n cap).ownBlock = some k → k < hi) ∧ hi ≤ w.heap.size := h.get j e
    exact ⟨h1.1.set k x, h1.2.1, Nat.le_trans h1.2.2 (grown_set w g k (bv x)).size⟩
  · rw [List.getElem?_set_ne (fun e => hji e.symm)] at hj
    exact q.go w _ _ (h.get j hj) (grown_set w g k (bv x)) (fun y ey => by injection ey with ey; subst ey; exact but_mem ha j q hji hj)
theorem Qs.hi {w : World} {ks : List Kq} (h : Qs w ks) (i g n cap base hi : Nat) {l : List UInt8} (e : ks[i]? = some (qO base hi (.slice (some ⟨g, 0, none⟩) n cap) l) := by rfl) : g < hi ∧ hi ≤ w.heap.size ∧ base ≤ g := by
  have h1 : OwnB w base (.slice (some ⟨g, 0, none⟩) n cap) l ∧ (∀ k, (Value.slice (some ⟨g, 0, none⟩) n cap).ownBlock = some k → k < hi) ∧ hi ≤ w.heap.size := h.get i e
  exact ⟨h1.2.1 g rfl, h1.2.2, h1.1.lt.1⟩

set_option maxHeartbeats 4000000 in
theorem fknown_any (w : World) : Calls Try.prog 13 #[] w fun e w' => e = .returned (.bool true) ∧ Below w.heap.size w w' := by
  have c0 := Lib.hid (fenc_k w)
  go_enter Try.func13, Try.ntmps13
  go_wp2_with fail
  refine c0.out.mono ?_
  rintro e w1 ⟨g, c1, rfl, H1⟩
  clear c0
  obtain ⟨hc, hg, hO, b1⟩ := H1.out
  have HK := Lib.hid (((Qs.zero w).go b1).own_ hO)
  have HD := Lib.hid (fdec_k1 g c1 w1 hO.bs hc)
  have HC := Lib.hid (And.intro hc hg)
  clear H1 hc hg hO b1
  go_wp2_with fail
  refine HD.out.mono ?_
  clear HD
  rintro e w2 ⟨A2, c2, rfl, b2⟩
  replace HK := Lib.hid ((HK.out.go b2).box #[.int .u8 1, .int .u32 1, .int .u32 0, .int .u32 0, .int .u32 0, .int .u32 0, .int .u32 0, .bool false, .int .u64 0, .slice A2 0 c2, .int .i64 0] 30)
  have ho := HK.out.own 1
  have e5 := ho.cell 5 (by rw [kE_len]; decide)
  rw [(List.getElem?_eq_some_iff.1 kE_at).2] at e5
  have e5 : _ = some (Value.int .u8 0) := e5
  have f5 := ho.frozen 5
  clear ho
  have HS := Lib.hid (And.intro b2.size (HK.out.hi 1 g 44 c1 _ _))
  clear b2
  go_wp2_with fail
  have hP := HK.out.putO 1 g 5 44 c1 _ _ 1 (by
    have h1 := HS.out
    have h2 := HC.out
    simp only [apBut, apAll, qB, qW, and_true]
    omega)
  generalize hW : World.setCell _ _ _ = W
  have hW2 : World.setCell _ _ (bv 1) = W := hW
  rw [hW2] at hP
  have HK := Lib.hid hP
  clear hP hW hW2
  have HD := Lib.hid (fdec_k2 g c1 W (show OwnB W _ _ kE2 by unfold kE2; exact HK.out.own 1).bs HC.out.1)
  refine HD.out.mono ?_
  clear HD e5 f5
  rintro e w3 ⟨A3, c3, rfl, b3⟩
  replace HK := Lib.hid ((HK.out.go b3).box #[.int .u8 0, .int .u32 0, .int .u32 0, .int .u32 0, .int .u32 0, .int .u32 0, .int .u32 0, .bool false, .int .u64 0, .slice A3 0 c3, .int .i64 0] 30)
  have HD := Lib.hid (fdec_k3 g c1 _ (show OwnB _ _ _ kE2 by unfold kE2; exact HK.out.own 2).bs (by have := HC.out.1; omega))
  clear b3
  have t1 : ¬ (c1 : Int) < 43 := by have := HC.out.1; omega
  go_wp2_with fail
  refine HD.out.mono ?_
  clear HD
  rintro e w4 ⟨A4, c4, rfl, b4⟩
  replace HK := Lib.hid ((HK.out.go b4).box #[.int .u8 0, .int .u32 0, .int .u32 0, .int .u32 0, .int .u32 0, .int .u32 0, .int .u32 0, .bool false, .int .u64 0, .slice A4 0 c4, .int .i64 0] 30)
  have C := HK.out.says
  simp only [sayAll, cellsSay, qB, qW, qO, Nat.reduceAdd, and_true, true_and, List.set] at C
  go_wp2_with fail
  go_ret
  exact ⟨rfl, HK.out.top 4⟩

end Go.Proofs.Ytpedobpbpomkaaa
