/- Contracts of the first functions of package bit. -/
import Derived.Test.YtpedobpbpomkaaaBase
namespace Go.Proofs.Ytpedobpbpomkaaa
open Go.RowKit

set_option maxHeartbeats 400000 in
theorem bytesOf_any (n : Nat) (w : World) (hn : (n : Int) ≤ 9223372036854775807) :
    Calls Try.prog 62 #[.int .i64 n] w fun e w' => e = .returned (.int .i64 (nb n)) ∧ w = w' := by
  by_cases h : n % 8 = 0
  · have hd : (((n : Int) % 8) != 0) = false := by simp; omega
    go_enter Try.func62, Try.ntmps62
    go_wp2
    go_ret
    exact ⟨ret_int (by unfold nb; omega), rfl⟩
  · have hd : (((n : Int) % 8) != 0) = true := by simp; omega
    go_enter Try.func62, Try.ntmps62
    go_wp2
    go_ret
    exact ⟨ret_int (by unfold nb; omega), rfl⟩

theorem bytesOf_sum (m d : Nat) (w : World) (hn : m + d ≤ 9223372036854775807) :
    Calls Try.prog 62 #[.int .i64 ((m : Int) + (d : Int))] w fun e w' => e = .returned (.int .i64 (nb (m + d))) ∧ w = w' := by
  have h := bytesOf_any (m + d) w (by omega)
  rwa [Int.natCast_add] at h

theorem last_dec (x k : Nat) : (((x : Int) * 2 ^ k % 256) == 0) = decide (x * 2 ^ k % 256 = 0) := by
  have e : ((x : Int) * 2 ^ k % 256) = ((x * 2 ^ k % 256 : Nat) : Int) := by rw [Int.natCast_emod, Int.natCast_mul, Int.natCast_pow]; rfl
  rw [e]
  generalize x * 2 ^ k % 256 = m
  rw [Bool.eq_iff_iff, beq_iff_eq, decide_eq_true_eq]; omega

theorem sound_lt (l : List UInt8) {n : Int} (h : n < 0) : soundB l n = false := by simp [soundB]; omega
theorem sound_ne {l : List UInt8} {m : Nat} (h : ¬ l.length = nb m) : soundB l m = false := by simp [soundB, h]
theorem sound_zero {l : List UInt8} {m : Nat} (h : l.length = nb m) (h8 : m % 8 = 0) : soundB l m = true := by simp [soundB, h, h8]
theorem sound_last {l : List UInt8} {m : Nat} (h : l.length = nb m) (h8 : ¬ m % 8 = 0) (hp : l.length - 1 < l.length) :
    soundB l m = decide ((l[l.length - 1]).toNat * 2 ^ (m % 8) % 256 = 0) := by
  have e : l[l.length - 1]?.getD 0 = l[l.length - 1] := by rw [List.getElem?_eq_getElem hp]; rfl
  have e1 : soundB l m = decide ((l[l.length - 1]?.getD 0).toNat * 2 ^ (m % 8) % 256 = 0) := by simp [soundB, h8, h]
  rw [e1, e]

set_option maxHeartbeats 400000 in
theorem sound_any (A : Option Addr) (c : Nat) (l : List UInt8) (n : Int) (w : World) (hb : Bs w A l) (hn : -9223372036854775808 ≤ n ∧ n ≤ 9223372036854775807) (hl : l.length ≤ maxLen) :
    Calls Try.prog 53 #[.agg #[.slice A l.length c, .int .i64 n]] w fun e w' => e = .returned (.bool (soundB l n)) ∧ Below w.heap.size w w' := by
  unfold maxLen at hl
  by_cases h0 : n < 0
  · have hd : decide (n < 0) = true := by simpa using h0
    go_enter Try.func53, Try.ntmps53
    go_wp2_with fail
    go_quiet (fail)
    go_wp2
    go_ret
    exact ⟨ret_bool (sound_lt l h0).symm, below_drewN ((Below.refl _ _).alloc (Nat.le_refl _) _) _⟩
  · have hd : decide (n < 0) = false := by simpa using h0
    obtain ⟨m, rfl⟩ := Int.eq_ofNat_of_zero_le (show 0 ≤ n by omega)
    by_cases h1 : l.length = nb m
    · have hg : (((l.length : Int) != (nb m : Int))) = false := by simp; omega
      have H1 := Lib.hid h1
      clear h1
      by_cases h8 : m % 8 = 0
      · have he : (((m : Int) % 8) == 0) = true := by simp; omega
        have H8 := Lib.hid h8
        clear h8
        go_enter Try.func53, Try.ntmps53
        go_wp2_with fail
        go_quiet ((go_at_call 62; exact quiet_eq (bytesOf_any m _ (by omega))))
        go_wp2
        go_ret
        exact ⟨ret_bool (sound_zero H1.out H8.out).symm, below_drewN ((Below.refl _ _).alloc (Nat.le_refl _) _) _⟩
      · have he : (((m : Int) % 8) == 0) = false := by simp; omega
        have hpos : 0 < l.length := by rw [H1.out]; unfold nb; omega
        have hp : l.length - 1 < l.length := by omega
        obtain ⟨p, o, rfl, hlt, hc⟩ := hb.at_ hpos
        have hc1 := hc _ hp
        clear hc
        go_enter Try.func53, Try.ntmps53
        go_wp2_with fail
        go_quiet ((go_at_call 62; exact quiet_eq (bytesOf_any m _ (by omega))))
        go_wp2
        go_ret
        rw [sound_last H1.out h8 hp]
        refine ⟨?_, below_drewN ((Below.refl _ _).alloc (Nat.le_refl _) _) _⟩
        exact ret_bool (last_dec _ _)
    · have hg : (((l.length : Int) != (nb m : Int))) = true := by simp; omega
      have H1 := Lib.hid h1
      clear h1
      go_enter Try.func53, Try.ntmps53
      go_wp2_with fail
      go_quiet ((go_at_call 62; exact quiet_eq (bytesOf_any m _ (by omega))))
      go_wp2
      go_ret
      exact ⟨ret_bool (sound_ne H1.out).symm, below_drewN ((Below.refl _ _).alloc (Nat.le_refl _) _) _⟩

end Go.Proofs.Ytpedobpbpomkaaa
