/- Layer 7: the walk of FrameReads. -/
import Derived.Test.YtpedobpbpomkaaaFr22
set_option linter.unusedSimpArgs false
set_option linter.unusedVariables false
namespace Go.Proofs.Ytpedobpbpomkaaa
open Go.RowKit
set_option maxRecDepth 100000

theorem decF_small (l : List UInt8) : (decF l).2 ≤ 71 := by
  rcases dec_no l with h | ⟨-, h | h⟩ <;> omega
theorem flip_ff (x : UInt8) : ∃ y : UInt8, Value.int .u8 (bits .xor .u8 (x.toNat : Int) 255) = bv y := by
  refine ⟨UInt8.ofNat (x.toNat ^^^ 255), ?_⟩
  have hlt : x.toNat ^^^ 255 < 256 := Nat.xor_lt_two_pow (n := 8) x.toNat_lt (by decide)
  rw [show (255 : Int) = ((255 : Nat) : Int) from rfl, xor_u8 _ _ x.toNat_lt (by decide)]
  unfold bv
  rw [UInt8.toNat_ofNat_of_lt' hlt]

set_option maxHeartbeats 8000000 in
theorem frameReads_walk (A : Option Addr) (c : Nat) (l : List UInt8) (w : World) (hA : Bs w A l) (hc : l.length ≤ c) (hl : l.length ≤ maxLen) :
    Calls Try.prog 4 #[.slice A l.length c] w fun e w' => e = .returned (.bool true) ∧ Below w.heap.size w w' := by
  unfold maxLen at hl
  have HA := Lib.hid hA
  have Hc := Lib.hid hc
  have HK := Lib.hid (Qs.zero w)
  clear hc
  by_cases h1 : 4300 < l.length
  · have hI : (4300 : Int) < l.length := by omega
    go_enter Try.func4, Try.ntmps4
    go_wp2_with fail
    refine (fknown_any _).mono ?_
    rintro e w1 ⟨rfl, b1⟩
    have HK1 := Lib.hid (HK.out.go b1)
    clear b1
    go_wp2_with fail
    go_ret
    exact ⟨rfl, HK1.out.top 0⟩
  have hI : ¬ (4300 : Int) < l.length := by omega
  have hsm := decF_small l
  have hD := fun (A : Option Addr) (c : Nat) (W : World) (h1 : Bs W A l) (h2 : l.length ≤ c) => fdec_any A c l W h1 h2 (by omega)
  have hR := fun (A : Option Addr) (c : Nat) (W : World) (h1 : Bs W A l) (h2 : l.length ≤ c) => rfdec_any A c l W h1 h2 (by omega)
  obtain ⟨⟨kd5, ep5, se5, fc5, fb5, fn5, cn5, cl5, sm5, l5, n5⟩, e5, hde⟩ : ∃ a b, decF l = (a, b) := ⟨_, _, rfl⟩
  have hS := fun (A B : Option Addr) (c d : Nat) (W : World) (h1 : Bs W A l5) (h2 : Bs W B l5) => rfsame_any ⟨kd5, ep5, se5, fc5, fb5, fn5, cn5, cl5, sm5, l5, n5⟩ ⟨kd5, ep5, se5, fc5, fb5, fn5, cn5, cl5, sm5, l5, n5⟩ A B c d W h1 h2
  rw [(sameF_iff _ _).2 rfl] at hS
  rw [hde] at hD hR hsm
  simp only [frC] at hD hR hS hsm
  have HD := Lib.hid hD
  have HR := Lib.hid hR
  have HS := Lib.hid hS
  have hwr : IntKind.i64.wrap (e5 : Int) = (e5 : Int) := by rw [IntKind.wrap_i64]; omega
  clear hD hR hS hde hsm
  go_enter Try.func4, Try.ntmps4
  go_wp2_with fail
  refine (fknown_any _).mono ?_
  rintro e w1 ⟨rfl, b1⟩
  replace HK := Lib.hid (HK.out.go b1)
  have bA := HA.out.below (HK.out.top 0)
  have hz1 := (HK.out.top 0).size
  clear b1 hA
  go_wp2_with (at_builtin; go_must (refine appAllL _ rfl (.tmp 18) (.tmp 19) rfl w1.heap.size _ [] rfl (OwnB.nil _ _) A c l rfl bA (by simp; omega) (Nat.le_refl _) ?_); intro A3 c3 w3 o3 g3 j3; rw [List.nil_append, List.length_nil, Nat.zero_add] at o3; rw [List.length_nil, Nat.zero_add])
  have hc3 : l.length ≤ c3 := by
    obtain ⟨A', c', he, hc, _⟩ := o3.isB
    injection he with _ _ he
    subst he
    exact hc
  replace HK := Lib.hid ((HK.out.grow g3 (fun g e => by cases e)).own_ o3)
  have hz0 := g3.size
  clear o3 g3 j3 bA
  refine (HD.out A3 c3 w3 (HK.out.own 0).bs hc3).mono ?_
  clear HD
  rintro e w4 ⟨A5, c5, rfl, H1⟩
  obtain ⟨o1, b1⟩ := H1.out
  have HZ := Lib.hid (And.intro b1.size (And.intro hz0 hz1))
  replace HK := Lib.hid (((HK.out.go b1).own_ o1).box #[.int .u8 (kd5 : Nat), .int .u32 (ep5 : Nat), .int .u32 (se5 : Nat), .int .u32 (fc5 : Nat), .int .u32 (fb5 : Nat), .int .u32 (fn5 : Nat), .int .u32 (cn5 : Nat), .bool cl5, .int .u64 (sm5 : Nat), .slice A5 l5.length c5, .int .i64 n5] 30)
  clear o1 b1 H1 hz0 hz1
  have hst := str_of (HK.out.own 2).bs c3
  have hsu := str_of (HA.out.below (HK.out.top 3)) c
  go_wp2_with fail
  go_loopw [7] (fun s7 wr => ∃ (i : Nat) (L : List UInt8), i ≤ l.length ∧ s7 = .int .i64 i ∧ L.length = l.length ∧ Hid (Qs wr [qB w4.heap.size 30 #[.int .u8 (kd5 : Nat), .int .u32 (ep5 : Nat), .int .u32 (se5 : Nat), .int .u32 (fc5 : Nat), .int .u32 (fb5 : Nat), .int .u32 (fn5 : Nat), .int .u32 (cn5 : Nat), .bool cl5, .int .u64 (sm5 : Nat), .slice A5 l5.length c5, .int .i64 n5], qO w3.heap.size w4.heap.size (.slice A5 l5.length c5) l5, qO w1.heap.size w3.heap.size (.slice A3 l.length c3) L, qW w w.heap.size (Nat.le_refl _)])) (fun i _ => l.length - (intOf i).toNat)
  case atStart => exact ⟨0, l, by omega, rfl, rfl, HK⟩
  case round =>
    obtain ⟨i, L, hi, rfl, hL, HKr⟩ := hrel
    clear HK
    by_cases hlt : i < l.length
    · have hiI : (i : Int) < (l.length : Int) := by omega
      have hd : decide ((i : Int) < (l.length : Int)) = true := by simp; omega
      have hd2 : decide (i < l.length) = true := by simp; omega
      obtain ⟨g, cap, hv, hgb, _, _⟩ := (HKr.out.own 2).form (by omega)
      injection hv with hv1 _ _
      subst hv1
      have ho := HKr.out.own 2
      have hh := HKr.out.hi 2 g l.length c3 _ _
      have cy := ho.cell i (by omega)
      obtain ⟨x, hx⟩ : ∃ x, x = L[i]'(by omega) := ⟨_, rfl⟩
      rw [← hx] at cy
      obtain ⟨y, hy⟩ := flip_ff x
      unfold bv at cy
      have fy := ho.frozen i
      have HH := Lib.hid hh
      have Hy := Lib.hid hy
      have HL := Lib.hid hL
      clear ho hh hx hy hgb hL
      go_wp2_with fail
      go_roundw
      case rel =>
        refine ⟨i + 1, L.set i y, by omega, by go_num, by rw [List.length_set]; exact HL.out, ?_⟩
        rw [Hy.out]
        exact Lib.hid (HKr.out.putO 2 g i l.length c3 _ _ y (by
          have h1 := HH.out
          have h2 := HZ.out
          simp only [apBut, apAll, qB, qW, qO, and_true]
          omega))
      case measure => simp [intOf]; omega
    · have hd : decide ((i : Int) < (l.length : Int)) = false := by simp; omega
      have hd2 : decide (i < l.length) = false := by simp; omega
      clear hL
      go_wp2_with fail
      refine (HR.out A c _ (HA.out.below (HKr.out.top 3)) Hc.out).mono ?_
      rintro e w6 ⟨A6, c6, rfl, H1⟩
      obtain ⟨o1, b1⟩ := H1.out
      have HK := Lib.hid (((HKr.out.go b1).own_ o1).box #[.int .u8 (kd5 : Nat), .int .u32 (ep5 : Nat), .int .u32 (se5 : Nat), .int .u32 (fc5 : Nat), .int .u32 (fb5 : Nat), .int .u32 (fn5 : Nat), .int .u32 (cn5 : Nat), .bool cl5, .int .u64 (sm5 : Nat), .slice A6 l5.length c6, .int .i64 n5] 30)
      have C := HK.out.says
      simp only [sayAll, cellsSay, qB, qW, qO, Nat.reduceAdd, and_true, true_and] at C
      clear o1 b1 H1 HKr
      go_wp2_with fail
      refine (HS.out A5 A6 c5 c6 _ (HK.out.own 3).bs (HK.out.own 1).bs).mono ?_
      rintro e w7 ⟨rfl, b1⟩
      replace HK := Lib.hid (HK.out.go b1)
      clear b1
      go_wp2_with fail
      go_ret
      exact ⟨by simp, HK.out.top 5⟩

end Go.Proofs.Ytpedobpbpomkaaa
