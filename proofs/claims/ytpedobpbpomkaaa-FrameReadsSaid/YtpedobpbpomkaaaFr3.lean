/- Layer 7: numbers behind bytes, numbers out of bytes: the document's. -/
import Derived.Test.YtpedobpbpomkaaaMathF
import Derived.Test.YtpedobpbpomkaaaApp
import Derived.Test.YtpedobpbpomkaaaKq
import Derived.BigQuiet
import Derived.Deep.QuietTactic
set_option linter.unusedSimpArgs false
set_option linter.unusedVariables false
namespace Go.Proofs.Ytpedobpbpomkaaa
open Go.RowKit
set_option maxRecDepth 100000

theorem be_shift (v i : Nat) : (v : Int) / 2 ^ (8 * i) = ((v / 256 ^ i : Nat) : Int) := by
  rw [show (256 : Nat) ^ i = 2 ^ (8 * i) from by rw [Nat.pow_mul]]
  norm_cast
theorem u8_byte (x : Nat) : IntKind.u8.wrap (x : Int) = ((UInt8.ofNat (x % 256)).toNat : Int) := by
  rw [IntKind.wrap_u8]
  have : (UInt8.ofNat (x % 256)).toNat = x % 256 := by simp
  rw [this]; norm_cast
theorem be_take {wd v j : Nat} (h : j < wd) : (be wd v).take (j + 1) = (be wd v).take j ++ [UInt8.ofNat (v / 256 ^ (wd - 1 - j) % 256)] := by
  have hg := be_get v wd j h
  obtain ⟨hk, he⟩ := List.getElem?_eq_some_iff.1 hg
  rw [List.take_succ_eq_append_getElem hk, he]

set_option maxHeartbeats 1000000 in
theorem rput7_any (v wd : Nat) (A : Option Addr) (c : Nat) (L : List UInt8) (base : Nat) (w : World) (hown : OwnB w base (.slice A L.length c) L) (hwd : wd ≤ 8) (hv : v < 18446744073709551616) (hL : L.length ≤ 100000) (hb : base ≤ w.heap.size) :
    Calls Try.prog 33 #[.slice A L.length c, .int .u64 (v : Nat), .int .i64 (wd : Nat)] w fun e w' => ∃ A' c' N, e = .returned (.slice A' N c') ∧ Hid (N = L.length + wd ∧ OwnB w' base (.slice A' N c') (L ++ be wd v) ∧ Below base w w') := by
  have HO := Lib.hid hown
  clear hown
  have hw0 : IntKind.i64.wrap ((wd : Int) - 1) = (wd : Int) - 1 := by rw [IntKind.wrap_i64]; omega
  go_enter Try.func33, Try.ntmps33
  go_wp2_with fail
  go_loopw [0, 7] (fun s0 s7 wr => ∃ (i : Int) (j N : Nat) (M : List UInt8) (A2 : Option Addr) (c2 : Nat), j ≤ wd ∧ Hid (i = (wd : Int) - 1 - j) ∧ s7 = .int .i64 i ∧ s0 = .slice A2 N c2 ∧ Hid (N = M.length) ∧ Hid (M = L ++ (be wd v).take j) ∧ Hid (OwnB wr base (.slice A2 N c2) M) ∧ Hid (Below base w wr))
    (fun _ s7 _ => (intOf s7 + 1).toNat)
  case atStart => exact ⟨(wd : Int) - 1, 0, L.length, L, A, c, Nat.zero_le _, Lib.hid (by omega), rfl, rfl, Lib.hid rfl, Lib.hid (by simp), HO, Lib.hid (Below.refl _ _)⟩
  case round =>
    obtain ⟨i, j, N, M, A2, c2, hj, Hi, rfl, rfl, HN, HM, HOr, HB⟩ := hrel
    have hsz : base ≤ wr.heap.size := Nat.le_trans hb HB.out.size
    have hMl : M.length ≤ 100008 := by rw [HM.out, List.length_append, List.length_take, be_len]; omega
    have hNl : N ≤ 100008 := by rw [HN.out]; exact hMl
    by_cases hlt : j < wd
    · obtain ⟨k, hk⟩ : ∃ k, k = wd - 1 - j := ⟨_, rfl⟩
      obtain rfl : i = (k : Int) := by have := Hi.out; omega
      have hst := be_take (v := v) hlt
      rw [← hk] at hst
      obtain ⟨s, hs⟩ : ∃ s : Nat, s = 8 * k := ⟨_, rfl⟩
      have f1 : IntKind.i64.wrap (8 * (k : Int)) = (s : Int) := by rw [IntKind.wrap_i64]; omega
      have f2 : IntKind.u64.wrap (s : Int) = (s : Int) := by rw [IntKind.wrap_u64]; omega
      obtain ⟨q, hq⟩ : ∃ q, q = v / 256 ^ k := ⟨_, rfl⟩
      have f3 : (v : Int) / 2 ^ s = (q : Int) := by rw [hs, be_shift, hq]
      obtain ⟨b, hb2⟩ : ∃ b, b = UInt8.ofNat (q % 256) := ⟨_, rfl⟩
      have f4 : IntKind.u8.wrap (q : Int) = (b.toNat : Int) := by rw [u8_byte, hb2]
      rw [← hq, ← hb2] at hst
      have HM2 := Lib.hid (show M ++ [b] = L ++ (be wd v).take (j + 1) by rw [hst, HM.out, List.append_assoc])
      have hw1 : IntKind.i64.wrap ((k : Int) - 1) = (k : Int) - 1 := by rw [IntKind.wrap_i64]; omega
      have hs64 : (s : Int) < 64 := by omega
      have hs64' : s < 64 := by omega
      have Hk := Lib.hid hk
      have hMN := HN.out
      subst hMN
      clear hst hs hq hb2 hk
      go_wp2_with (at_builtin; go_must (refine appB _ rfl (.tmp 14) (.tmp 21) rfl base _ M rfl (HOr.out.alloc _) wr.heap.size b rfl ((Blk.new wr _ _).cell 0) (by omega) (by simp; omega) ?_); intro g5 c5 w5 hown5 hb5)
      go_roundw
      case measure => simp [intOf] <;> omega
      case rel => exact ⟨(k : Int) - 1, j + 1, M.length + 1, M ++ [b], some ⟨g5, 0, none⟩, c5, by omega, Lib.hid (by have := Hk.out; omega), rfl, rfl, Lib.hid (by simp), HM2, Lib.hid hown5, Lib.hid ((HB.out.trans ((Below.refl base wr).alloc hsz _)).trans hb5)⟩
    · obtain rfl : j = wd := by omega
      obtain rfl : i = -1 := by have := Hi.out; omega
      have HMf : Hid (N = L.length + j ∧ M = L ++ be j v) := Lib.hid (by
        have h1 := HM.out
        rw [List.take_of_length_le (by rw [be_len]; omega)] at h1
        exact ⟨by rw [HN.out, h1, List.length_append, be_len], h1⟩)
      go_wp2_with fail
      go_ret
      exact ⟨A2, c2, N, rfl, Lib.hid ⟨HMf.out.1, by rw [← HMf.out.2]; exact HOr.out, HB.out⟩⟩

set_option maxHeartbeats 1000000 in
theorem rnumber_any (at_ wd : Nat) (A : Option Addr) (c : Nat) (l : List UInt8) (w : World) (hA : Bs w A l) (hwd : wd ≤ 8) (hl : at_ + wd ≤ l.length) (hL : l.length ≤ 100000) :
    Calls Try.prog 42 #[.slice A l.length c, .int .i64 (at_ : Nat), .int .i64 (wd : Nat)] w fun e w' => e = .returned (.int .u64 (num (part l at_ wd) : Nat)) ∧ w' = w := by
  obtain ⟨R, hR⟩ : ∃ R, R = num (part l at_ wd) := ⟨_, rfl⟩
  rw [← hR]
  have HR := Lib.hid hR
  have HA := Lib.hid hA
  clear hA hR
  have hwe : IntKind.i64.wrap ((at_ : Int) + (wd : Int)) = (at_ : Int) + wd := by rw [IntKind.wrap_i64]; omega
  go_enter Try.func42, Try.ntmps42
  go_wp2_with fail
  go_loopw [7, 8] (fun s7 s8 wr => ∃ (i k n : Nat), k ≤ wd ∧ Hid (i = at_ + k) ∧ s8 = .int .i64 i ∧ s7 = .int .u64 n ∧ Hid (n = num ((part l at_ wd).take k)) ∧ w = wr)
    (fun _ s8 _ => (at_ + wd) - (intOf s8).toNat)
  case atStart => exact ⟨at_, 0, 0, Nat.zero_le _, Lib.hid rfl, rfl, rfl, Lib.hid rfl, rfl⟩
  case round =>
    obtain ⟨i, k, n, hk, Hi, rfl, rfl, HN, rfl⟩ := hrel
    have hi := Hi.out
    by_cases hlt : k < wd
    · have hil : i < l.length := by omega
      have hil2 : (i : Int) < l.length := by omega
      have hib : decide ((i : Int) < (at_ : Int) + wd) = true := decide_eq_true (by omega)
      obtain ⟨p, o, rfl, hc⟩ := HA.out i l[i] (List.getElem?_eq_getElem hil)
      have hpk : (part l at_ wd)[k]? = some l[i] := by
        unfold part
        rw [List.getElem?_take, if_pos hlt, List.getElem?_drop, ← hi]
        exact List.getElem?_eq_getElem hil
      have hst := num_snoc hpk
      rw [← HN.out] at hst
      have hlt8 := num_lt ((part l at_ wd).take (k + 1))
      obtain ⟨x, hx⟩ : ∃ x, x = l[i] := ⟨_, rfl⟩
      rw [← hx] at hc hst
      obtain ⟨n', hn'⟩ : ∃ n', n' = num ((part l at_ wd).take (k + 1)) := ⟨_, rfl⟩
      rw [← hn'] at hst hlt8
      have hk8 : ((part l at_ wd).take (k + 1)).length ≤ 8 := by rw [List.length_take, part_len hl]; omega
      have hb64 : n' < 18446744073709551616 := Nat.lt_of_lt_of_le hlt8 (Nat.le_trans (Nat.pow_le_pow_right (by decide) hk8) (by decide))
      have hxl := x.toNat_lt
      have f0 : IntKind.u64.wrap ((x.toNat : Nat) : Int) = (x.toNat : Int) := by rw [IntKind.wrap_u64]; omega
      obtain ⟨m, hm⟩ : ∃ m, m = 256 * n := ⟨_, rfl⟩
      have f1 : IntKind.u64.wrap (256 * (n : Int)) = (m : Int) := by rw [IntKind.wrap_u64]; omega
      have f2 : IntKind.u64.wrap ((m : Int) + (x.toNat : Int)) = (n' : Int) := by rw [IntKind.wrap_u64]; omega
      have HN' := Lib.hid hn'
      unfold bv at hc
      clear hpk hst hlt8 hx hn' hb64 hm hi hk8
      go_wp2_with fail
      go_roundw
      case measure => have := Hi.out; simp [intOf]; omega
      case rel => exact ⟨i + 1, k + 1, n', by omega, Lib.hid (by have := Hi.out; omega), by go_num, rfl, HN', by first | rfl | trivial⟩
    · obtain rfl : k = wd := by omega
      have hib : decide ((i : Int) < (at_ : Int) + k) = false := decide_eq_false (by omega)
      have hn := HN.out
      rw [List.take_of_length_le (by rw [part_len hl]; exact Nat.le_refl _), ← HR.out] at hn
      have HNR := Lib.hid hn
      clear hn hi
      go_wp2_with fail
      go_ret
      exact ⟨by rw [← HNR.out]; rfl, rfl⟩

end Go.Proofs.Ytpedobpbpomkaaa
