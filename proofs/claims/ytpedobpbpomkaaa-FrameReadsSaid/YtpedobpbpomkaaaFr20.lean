/- Layer 7: the walk of FrameOnly. -/
import Derived.Test.YtpedobpbpomkaaaFr19
set_option linter.unusedSimpArgs false
set_option linter.unusedVariables false
namespace Go.Proofs.Ytpedobpbpomkaaa
open Go.RowKit
set_option maxRecDepth 100000

theorem dec_no (b : List UInt8) : (decF b).2 = 0 ∨ (decF b).1 = zeroF ∧ ((decF b).2 = 70 ∨ (decF b).2 = 71) := by
  unfold decF
  split
  · simp
  · split
    · simp
    · split <;> simp
theorem zeroF_cells (A : Option Addr) (c : Nat) : frC zeroF A c = #[.int .u8 0, .int .u32 0, .int .u32 0, .int .u32 0, .int .u32 0, .int .u32 0, .int .u32 0, .bool false, .int .u64 0, .slice A 0 c, .int .i64 0] := rfl

set_option maxHeartbeats 4000000 in
theorem frameOnly_walk (A : Option Addr) (c : Nat) (l : List UInt8) (w : World) (hA : Bs w A l) (hc : l.length ≤ c) (hl : l.length ≤ maxLen) :
    Calls Try.prog 6 #[.slice A l.length c] w fun e w' => e = .returned (.bool true) ∧ Below w.heap.size w w' := by
  unfold maxLen at hl
  have HA := Lib.hid hA
  have Hc := Lib.hid hc
  have HK := Lib.hid (Qs.zero w)
  clear hA hc
  by_cases h1 : 4300 < l.length
  · have hI : (4300 : Int) < l.length := by omega
    go_enter Try.func6, Try.ntmps6
    go_wp2_with fail
    refine (fknown_any _).mono ?_
    rintro e w1 ⟨rfl, b1⟩
    have HK1 := Lib.hid (HK.out.go b1)
    clear b1
    go_wp2_with fail
    go_ret
    exact ⟨rfl, HK1.out.top 0⟩
  have hI : ¬ (4300 : Int) < l.length := by omega
  go_enter Try.func6, Try.ntmps6
  go_wp2_with fail
  refine (fknown_any _).mono ?_
  rintro e w1 ⟨rfl, b1⟩
  replace HK := Lib.hid (HK.out.go b1)
  clear b1
  go_wp2_with fail
  have hd := fdec_any A c l w1 (HA.out.below (HK.out.top 0)) Hc.out (by omega)
  rcases dec_no l with h0 | ⟨h2, h3⟩
  rotate_left
  · rw [h2] at hd
    obtain ⟨e0, he0⟩ : ∃ e, e = (decF l).2 := ⟨_, rfl⟩
    rw [← he0] at hd h3
    clear he0 h2
    refine hd.mono ?_
    rintro e w2 ⟨A1, c1, rfl, H1⟩
    have b1 := H1.out.2
    rw [zeroF_cells]
    replace HK := Lib.hid ((HK.out.go b1).box #[.int .u8 0, .int .u32 0, .int .u32 0, .int .u32 0, .int .u32 0, .int .u32 0, .int .u32 0, .bool false, .int .u64 0, .slice A1 0 c1, .int .i64 0] 30)
    have C := HK.out.says
    simp only [sayAll, cellsSay, qB, qW, qO, Nat.reduceAdd, and_true, true_and] at C
    have hS := fun (W : World) => rfsame_any zeroF zeroF A1 none c1 0 W (Bs.nil _ _) (Bs.nil _ _)
    rw [(sameF_iff zeroF zeroF).2 rfl, zeroF_cells, frC_zero] at hS
    have HS := Lib.hid hS
    clear hS hd b1 H1
    rcases h3 with rfl | rfl
    all_goals
      go_wp2_with fail
      refine (HS.out _).mono ?_
      rintro e w3 ⟨rfl, b3⟩
      replace HK := Lib.hid (HK.out.go b3)
      clear b3
      go_wp2_with fail
      go_ret
      exact ⟨rfl, HK.out.top 1⟩
  obtain ⟨h2, h3, h4, h5, h6⟩ := enc_dec h0
  have hok := parF_ok l
  have hE := fun (A' : Option Addr) (c' : Nat) (W : World) (hb : Bs W A' (parF l).l) (hL : (parF l).l.length ≤ 4096) => fenc_any (parF l) A' c' W hb hok (by omega)
  have hM := fun (A' : Option Addr) (c' : Nat) (W : World) (hb : Bs W A' (parF l).l) (hL : (parF l).l.length ≤ 4096) => fmay_any (parF l) A' c' W hb hok (by omega)
  have hL : (parF l).l.length ≤ 4096 := by have := (mayF_n h3).2.2; omega
  unfold encR encE at hE
  simp only [h3, if_true] at hE
  simp only [h4] at hE
  rw [h3] at hM
  rw [h2] at hd
  obtain ⟨⟨kd1, ep1, se1, fc1, fb1, fn1, cn1, cl1, sm1, l1, n1⟩, hf⟩ : ∃ f, f = parF l := ⟨_, rfl⟩
  rw [← hf] at hd hE hM hL
  simp only [frC] at hd hE hM hL
  have HE := Lib.hid hE
  have HM := Lib.hid hM
  have HL := Lib.hid hL
  clear hE hM hL hf hok h2 h3 h4 h5 h6 h0
  refine hd.mono ?_
  clear hd
  rintro e w2 ⟨A1, c1, rfl, H1⟩
  obtain ⟨o1, b1⟩ := H1.out
  replace HK := Lib.hid (((HK.out.go b1).own_ o1).box #[.int .u8 (kd1 : Nat), .int .u32 (ep1 : Nat), .int .u32 (se1 : Nat), .int .u32 (fc1 : Nat), .int .u32 (fb1 : Nat), .int .u32 (fn1 : Nat), .int .u32 (cn1 : Nat), .bool cl1, .int .u64 (sm1 : Nat), .slice A1 l1.length c1, .int .i64 n1] 30)
  have C := HK.out.says
  simp only [sayAll, cellsSay, qB, qW, qO, Nat.reduceAdd, and_true, true_and] at C
  clear o1 b1 H1
  go_wp2_with fail
  refine (HE.out A1 c1 _ (HK.out.own 1).bs HL.out).mono ?_
  clear HE
  rintro e w3 ⟨A2, c2, rfl, H1⟩
  obtain ⟨o1, b1⟩ := H1.out
  replace HK := Lib.hid ((HK.out.go b1).own_ o1)
  have C := HK.out.says
  simp only [sayAll, cellsSay, qB, qW, qO, Nat.reduceAdd, and_true, true_and] at C
  clear o1 b1 H1
  have hst := str_of (HA.out.below (HK.out.top 3)) c
  have hsu := str_of (HK.out.own 0).bs c2
  go_wp2_with fail
  refine (HM.out A1 c1 _ (HK.out.own 2).bs HL.out).mono ?_
  rintro e w4 ⟨rfl, b1⟩
  replace HK := Lib.hid (HK.out.go b1)
  clear b1
  go_wp2_with fail
  go_ret
  exact ⟨rfl, HK.out.top 3⟩

end Go.Proofs.Ytpedobpbpomkaaa
