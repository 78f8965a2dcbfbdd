/- Layer 7: the walk of FrameBack. -/
import Derived.Test.YtpedobpbpomkaaaFr21
set_option linter.unusedSimpArgs false
set_option linter.unusedVariables false
namespace Go.Proofs.Ytpedobpbpomkaaa
open Go.RowKit
set_option maxRecDepth 100000

theorem encF_own {f : FrD} {w : World} {base c : Nat} {A : Option Addr} (h : OwnB w base (.slice A (encF f).length c) (encF f)) : (∃ g, A = some ⟨g, 0, none⟩) ∧ (encF f).length ≤ c := by
  obtain ⟨g, cap, hv, _, _, _⟩ := h.form (by rw [encF_len]; omega)
  obtain ⟨A', c', he, hc, _⟩ := h.isB
  injection hv with hv1 _ _
  injection he with _ _ he
  subst he
  exact ⟨⟨g, hv1⟩, hc⟩

set_option maxHeartbeats 8000000 in
theorem frameBack_walk (f : FrD) (A : Option Addr) (c : Nat) (k : Int) (x : Nat) (w : World) (hA : Bs w A f.l) (hl : f.l.length ≤ maxLen) (ho : f.ok) (hk : -9223372036854775808 ≤ k ∧ k ≤ 9223372036854775807) (hx : x < 256) :
    Calls Try.prog 5 #[.agg (frC f A c), .int .i64 k, .int .u8 x] w fun e w' => e = .returned (.bool true) ∧ Below w.heap.size w w' := by
  unfold maxLen at hl
  have hE := fun (W : World) (hb : Below w.heap.size w W) (h : f.l.length ≤ 4300) => fenc_any f A c W (hA.below hb) ho (by omega)
  have hM := fun (W : World) (hb : Below w.heap.size w W) (h : f.l.length ≤ 4300) => fmay_any f A c W (hA.below hb) ho (by omega)
  have HA := Lib.hid hA
  by_cases h1 : f.l.length ≤ 4300
  rotate_left
  · obtain ⟨kd, ep, se, fc, fb, fn, cn, cl, sm, l, n⟩ := f
    clear hE hM hA ho
    simp only [frC] at h1 ⊢
    have HK := Lib.hid ((Qs.zero w).box #[.int .u8 (kd : Nat), .int .u32 (ep : Nat), .int .u32 (se : Nat), .int .u32 (fc : Nat), .int .u32 (fb : Nat), .int .u32 (fn : Nat), .int .u32 (cn : Nat), .bool cl, .int .u64 (sm : Nat), .slice A l.length c, .int .i64 n] 30)
    have C := HK.out.says
    simp only [sayAll, cellsSay, qB, qW, Nat.reduceAdd, and_true, true_and] at C
    have hI : (4300 : Int) < l.length := by omega
    go_enter Try.func5, Try.ntmps5
    go_wp2_with fail
    refine (fknown_any _).mono ?_
    rintro e w1 ⟨rfl, b1⟩
    have HK1 := Lib.hid (HK.out.go b1)
    clear b1
    go_wp2_with fail
    go_ret
    exact ⟨rfl, HK1.out.top 1⟩
  rcases hm : mayF f with _ | _
  · rw [hm] at hM
    unfold encR encE at hE
    rw [hm] at hE
    simp only [if_false, Bool.false_eq_true, List.length_nil] at hE
    clear hm ho hA
    obtain ⟨kd, ep, se, fc, fb, fn, cn, cl, sm, l, n⟩ := f
    simp only [frC] at h1 hE hM hl ⊢
    have HE := Lib.hid hE
    have HM := Lib.hid hM
    clear hE hM
    have HK := Lib.hid ((Qs.zero w).box #[.int .u8 (kd : Nat), .int .u32 (ep : Nat), .int .u32 (se : Nat), .int .u32 (fc : Nat), .int .u32 (fb : Nat), .int .u32 (fn : Nat), .int .u32 (cn : Nat), .bool cl, .int .u64 (sm : Nat), .slice A l.length c, .int .i64 n] 30)
    have C := HK.out.says
    simp only [sayAll, cellsSay, qB, qW, Nat.reduceAdd, and_true, true_and] at C
    have hI : ¬ (4300 : Int) < l.length := by omega
    go_enter Try.func5, Try.ntmps5
    go_wp2_with fail
    refine (fknown_any _).mono ?_
    rintro e w1 ⟨rfl, b1⟩
    replace HK := Lib.hid (HK.out.go b1)
    have C := HK.out.says
    simp only [sayAll, cellsSay, qB, qW, Nat.reduceAdd, and_true, true_and] at C
    clear b1
    go_wp2_with fail
    refine (HE.out _ (HK.out.top 1) h1).mono ?_
    rintro e w2 ⟨A1, c1, rfl, H1⟩
    have b1 := H1.out.2
    replace HK := Lib.hid (HK.out.go b1)
    have C := HK.out.says
    simp only [sayAll, cellsSay, qB, qW, Nat.reduceAdd, and_true, true_and] at C
    clear b1 H1
    go_wp2_with fail
    refine (HM.out _ (HK.out.top 1) h1).mono ?_
    rintro e w3 ⟨rfl, b1⟩
    replace HK := Lib.hid (HK.out.go b1)
    clear b1
    go_wp2_with fail
    go_ret
    exact ⟨rfl, HK.out.top 1⟩
  have hbent := fun (i : Nat) (a b : UInt8) (h : (encF f)[i]? = some a) => dec_bent ho hm (c := b) h
  have hde := dec_enc ho hm
  have hss := (sameF_iff f f).2 rfl
  have hS := fun (B : Option Addr) (d : Nat) (W : World) (hb : Below w.heap.size w W) (hB : Bs W B f.l) => rfsame_any f f A B c d W (hA.below hb) hB
  rw [hss] at hS
  have hEl : (encF f).length = 44 + f.l.length := encF_len f
  have hl2 := (mayF_n hm).2.2
  have hD := fun (B : Option Addr) (d : Nat) (W : World) (hB : Bs W B (encF f)) (hd : (encF f).length ≤ d) => fdec_any B d (encF f) W hB hd (by omega)
  rw [hde] at hD
  have hO := fun (W : World) (base c : Nat) (A : Option Addr) (h : OwnB W base (.slice A (encF f).length c) (encF f)) => encF_own h
  unfold encR encE at hE
  simp only [hm, if_true] at hE
  obtain ⟨E, hEE⟩ : ∃ E, E = encF f := ⟨_, rfl⟩
  rw [← hEE] at hbent hEl
  simp only [← hEE] at hE hD hO
  clear hm ho hA hde hss hM hEE
  obtain ⟨kd, ep, se, fc, fb, fn, cn, cl, sm, l, n⟩ := f
  simp only [frC] at h1 hE hl hEl hl2 hS hD ⊢
  have HE := Lib.hid hE
  have HS := Lib.hid hS
  have HD := Lib.hid hD
  have HO := Lib.hid hO
  have HB := Lib.hid hbent
  have HL := Lib.hid (And.intro hEl hl2)
  clear hE hS hD hO hbent
  have HK := Lib.hid ((Qs.zero w).box #[.int .u8 (kd : Nat), .int .u32 (ep : Nat), .int .u32 (se : Nat), .int .u32 (fc : Nat), .int .u32 (fb : Nat), .int .u32 (fn : Nat), .int .u32 (cn : Nat), .bool cl, .int .u64 (sm : Nat), .slice A l.length c, .int .i64 n] 30)
  have C := HK.out.says
  simp only [sayAll, cellsSay, qB, qW, Nat.reduceAdd, and_true, true_and] at C
  have hI : ¬ (4300 : Int) < l.length := by omega
  have hJ : ¬ (E.length : Int) < 44 := by omega
  have hJ2 : ¬ (4096 : Int) < E.length := by omega
  clear hEl hl2
  go_enter Try.func5, Try.ntmps5
  go_wp2_with fail
  refine (fknown_any _).mono ?_
  rintro e w1 ⟨rfl, b1⟩
  replace HK := Lib.hid (HK.out.go b1)
  have C := HK.out.says
  simp only [sayAll, cellsSay, qB, qW, Nat.reduceAdd, and_true, true_and] at C
  have hlt1 := (HK.out.blk 0).lt
  clear b1
  go_wp2_with fail
  refine (HE.out _ (HK.out.top 1) h1).mono ?_
  rintro e w2 ⟨A1, c1, rfl, H1⟩
  obtain ⟨o1, b1⟩ := H1.out
  obtain ⟨⟨g, rfl⟩, hc1⟩ := HO.out _ _ _ _ o1
  replace HK := Lib.hid ((HK.out.go b1).own_ o1)
  have C := HK.out.says
  simp only [sayAll, cellsSay, qB, qW, qO, Nat.reduceAdd, and_true, true_and] at C
  have hlt2 := o1.lt
  clear b1 H1 o1
  go_wp2_with fail
  refine (HD.out _ c1 _ (HK.out.own 0).bs hc1).mono ?_
  rintro e w3 ⟨A2, c2, rfl, H1⟩
  obtain ⟨o1, b1⟩ := H1.out
  replace HK := Lib.hid (((HK.out.go b1).own_ o1).box #[.int .u8 (kd : Nat), .int .u32 (ep : Nat), .int .u32 (se : Nat), .int .u32 (fc : Nat), .int .u32 (fb : Nat), .int .u32 (fn : Nat), .int .u32 (cn : Nat), .bool cl, .int .u64 (sm : Nat), .slice A2 l.length c2, .int .i64 n] 30)
  have C := HK.out.says
  simp only [sayAll, cellsSay, qB, qW, qO, Nat.reduceAdd, and_true, true_and] at C
  have kA := keepA
  have HZ := Lib.hid (And.intro (HK.out.hi 2 g E.length c1 _ _) (And.intro (HK.out.blk 3).lt (And.intro b1.size (And.intro hlt1 hlt2))))
  clear b1 H1 o1
  go_wp2_with fail
  refine (HS.out A2 c2 _ (HK.out.top 4) (HK.out.own 1).bs).mono ?_
  rintro e w4 ⟨rfl, b1⟩
  replace HK := Lib.hid (HK.out.go b1)
  have C := HK.out.says
  simp only [sayAll, cellsSay, qB, qW, qO, Nat.reduceAdd, and_true, true_and] at C
  clear b1
  go_upto_region 9 with fail
  have hE0 : ¬ (E.length : Int) = 0 := by have := HL.out.1; omega
  have hE1 : 0 < E.length := by have := HL.out.1; omega
  go_cut [11] (fun s wx => ∃ i : Nat, s = .int .i64 i ∧ i < E.length ∧ wx = w4)
  case first =>
    by_cases hk0 : k < 0
    · go_wp2_with fail
      go_meet
      exact ⟨0, rfl, hE1, rfl⟩
    · have h2 := Int.emod_nonneg k (show (E.length : Int) ≠ 0 by omega)
      have h3 := Int.emod_lt_of_pos k (show 0 < (E.length : Int) by omega)
      obtain ⟨i, hi⟩ := Int.eq_ofNat_of_zero_le h2
      have Hi := Lib.hid hi
      have hi2 : i < E.length := by omega
      have htm : k.tmod (E.length : Int) = (i : Int) := by rw [Int.tmod_eq_emod_of_nonneg (by omega)]; exact hi
      clear hi h2 h3
      go_wp2_with fail
      go_meet
      exact ⟨i, by first | rw [Hi.out] | rfl, hi2, rfl⟩
  case rest =>
    obtain ⟨i, rfl, hi, rfl⟩ := hcut
    obtain ⟨y, hy⟩ : ∃ y, E[i]? = some y := ⟨_, List.getElem?_eq_getElem hi⟩
    have ho := HK.out.own 2
    have cy := ho.cell i hi
    rw [(List.getElem?_eq_some_iff.1 hy).2] at cy
    unfold bv at cy
    have fy := ho.frozen i
    obtain ⟨sb, hsb⟩ : ∃ b, b = ((y.toNat : Int) == (x : Int)) := ⟨_, rfl⟩
    have hiI : (i : Int) < (E.length : Int) := by omega
    obtain ⟨X, hX⟩ : ∃ X : UInt8, bv X = .int .u8 (x : Nat) := ⟨UInt8.ofNat x, by unfold bv; rw [UInt8.toNat_ofNat_of_lt' hx]⟩
    have hXy : y = X ↔ sb = true := by
      unfold bv at hX
      injection hX with _ hX
      rw [hsb, beq_iff_eq, ← hX, ← UInt8.toNat_inj]
      omega
    have HB2 := Lib.hid ((HB.out i y X hy).trans hXy)
    have HX := Lib.hid hX
    have HH := Lib.hid (HK.out.hi 2 g E.length c1 _ _)
    clear hy ho hX hXy hE0
    go_upto_region 12 with fail
    rw [← HX.out]
    have HK3 := HK.out.putO 2 g i E.length c1 _ _ X (by
      have h1 := HH.out
      have h2 := HZ.out
      simp only [apBut, apAll, qB, qW, qO, and_true]
      omega)
    generalize hW : World.setCell _ _ _ = W
    rw [hW] at HK3
    replace HK := Lib.hid HK3
    have hd := fdec_any (some ⟨g, 0, none⟩) c1 (E.set i X) W (HK.out.own 2).bs (by rw [List.length_set]; exact hc1) (by rw [List.length_set]; have := HL.out; omega)
    rw [List.length_set] at hd
    have hb2 := HB2.out
    obtain ⟨⟨kd5, ep5, se5, fc5, fb5, fn5, cn5, cl5, sm5, l5, n5⟩, e5, hde⟩ : ∃ a b, decF (E.set i X) = (a, b) := ⟨_, _, rfl⟩
    rw [hde] at hd hb2
    simp only [frC] at hd hb2
    clear HK3 hW cy fy HX hde
    have Hd := Lib.hid hd
    have Hb2 := Lib.hid hb2
    clear hd hb2
    go_wp2_with fail
    refine Hd.out.mono ?_
    clear Hd
    rintro e w6 ⟨A5, c5, rfl, H1⟩
    have b1 := H1.out.2
    replace HK := Lib.hid (HK.out.go b1)
    clear b1 H1
    have hfin : ((e5 : Int) == 0) = sb := by have hb2 := Hb2.out; rw [Bool.eq_iff_iff, beq_iff_eq, ← hb2]; omega
    have HF := Lib.hid hfin
    have Hsb := Lib.hid hsb
    clear hfin Hb2 hsb
    go_wp2_with fail
    go_ret
    exact ⟨by have := HF.out; rw [Hsb.out] at this; simp at this ⊢; exact this, (HK.out.top 4).trans ((below_alloc _ _).mono (HK.out.top 4).size)⟩

end Go.Proofs.Ytpedobpbpomkaaa
