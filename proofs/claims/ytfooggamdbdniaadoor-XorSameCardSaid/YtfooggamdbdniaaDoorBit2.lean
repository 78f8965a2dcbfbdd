/- Contracts of package bit: read. -/
import Derived.Test.YtfooggamdbdniaaDoorOwn
import Derived.Laws.ShiftsVar
namespace Go.Proofs.YtfooggamdbdniaaDoor
open Go.RowKit

theorem read_end (l : List UInt8) (a t n x q d : Nat) (hx : x = a + t) (hq : (8 : Int) - (x : Int) % 8 = q) (hn : n ≤ q) (hl : x / 8 < l.length) (htd : t + n ≤ d) (hd : d ≤ 64) :
    bits .or .u64 (IntKind.u64.wrap ((numB (cutl l a t) : Int) * 2 ^ n)) (IntKind.u64.wrap (bits .and .u8 (((l[x / 8]).toNat / 2 ^ (q - n) : Nat) : Int) ((2 ^ n - 1) % 256))) = (numB (cutl l a (t + n)) : Int) := by
  have h := numB_lt (cutl l a t)
  rw [cutl_length] at h
  have h2 : numB (cutl l a t) * 2 ^ n < 2 ^ t * 2 ^ n := Nat.mul_lt_mul_of_pos_right h (Nat.two_pow_pos n)
  rw [← Nat.pow_add] at h2
  have h3 : (2 : Nat) ^ (t + n) ≤ 2 ^ 64 := Nat.pow_le_pow_right (by decide) (by omega)
  have hb := (l[x / 8]).toNat_lt
  rw [read_val _ _ _ (by omega) (by omega) (Nat.lt_of_le_of_lt (Nat.div_le_self _ _) hb), read_step l a t n x q hx (by omega) hn hl]

set_option maxHeartbeats 1000000 in
theorem read_any (A : Option Addr) (c : Nat) (l : List UInt8) (a d : Nat) (w : World) (hb : Bs w A l) (hl : l.length ≤ 1099511627776) (hd : d ≤ 64) (had : a + d ≤ 8 * l.length) :
    Calls Tryd.prog 44 #[.slice A l.length c, .int .i64 a, .int .i64 d] w fun e w' => e = .returned (.int .u64 (numB (cutl l a d))) ∧ Below w.heap.size w w' := by
  go_enter Tryd.func44, Tryd.ntmps44
  go_wp2
  go_loopw [7, 1, 2] (fun v x r wr => ∃ t : Nat, t ≤ d ∧ x = .int .i64 ((a + t : Nat) : Int) ∧ r = .int .i64 ((d - t : Nat) : Int) ∧ v = .int .u64 (numB (cutl l a t)) ∧ Below w.heap.size w wr)
    (fun _ _ r _ => (intOf r).toNat)
  case atStart => exact ⟨0, Nat.zero_le _, rfl, rfl, rfl, Below.refl _ _⟩
  case round =>
    obtain ⟨t, ht, rfl, rfl, rfl, hbel⟩ := hrel
    by_cases hlt : t < d
    · obtain ⟨x, hx⟩ : ∃ x, x = a + t := ⟨_, rfl⟩
      obtain ⟨r, hr⟩ : ∃ r, r = d - t := ⟨_, rfl⟩
      rw [← hx, ← hr]
      have hx8 : x / 8 < l.length := by omega
      have hr0 : 0 < r := by omega
      have hxb : x ≤ 8796093022208 := by omega
      have hr64 : r ≤ 64 := by omega
      obtain ⟨p, o, rfl, hlt', hc⟩ := hb.at_ (by omega)
      have hc1 := hc _ hx8
      have hc2 : wr.cell? ⟨p, o + x / 8, none⟩ = some (bv l[x / 8]) := (hbel.cell hlt').trans hc1
      clear hc hc1
      have HX := Lib.hid hx
      have HR := Lib.hid hr
      clear hx hr
      have hix : (x : Int) / 8 < l.length := by omega
      obtain ⟨q, hq⟩ : ∃ q : Nat, (8 : Int) - (x : Int) % 8 = (q : Int) := ⟨8 - x % 8, by omega⟩
      have hq1 : 1 ≤ q ∧ q ≤ 8 := by omega
      have HQ := Lib.hid hq
      clear hq
      by_cases hm : q ≤ r
      · have hmI : (8 : Int) - (x : Int) % 8 ≤ r := by rw [HQ.out]; omega
        go_wp2
        rw [HQ.out]
        clear hmI
        go_quiet (fail)
        go_wp2
        go_roundw
        case measure => simp [intOf]; omega
        case rel =>
          refine ⟨t + q, by have := HR.out; omega, by rw [HX.out]; go_num, by have := HR.out; congr 1; omega, ?_, below_drewN hbel _⟩
          have h := read_end l a t q x q d HX.out HQ.out (Nat.le_refl _) hx8 (by have := HR.out; omega) hd
          rw [Nat.sub_self, Nat.pow_zero, Nat.div_one] at h
          rw [h]
      · have hmI : ¬ (8 : Int) - (x : Int) % 8 ≤ r := by rw [HQ.out]; omega
        go_wp2
        rw [HQ.out]
        clear hmI
        have hqr : (0 : Int) ≤ (q : Int) - r := by omega
        go_quiet (fail)
        go_wp2
        go_roundw
        case measure => simp [intOf]; omega
        case rel =>
          refine ⟨t + r, by have := HR.out; omega, by rw [HX.out]; go_num, by have := HR.out; congr 1; omega, ?_, below_drewN hbel _⟩
          have h := read_end l a t r x q d HX.out HQ.out (by omega) hx8 (by have := HR.out; omega) hd
          rw [nat_shr, h]
    · obtain rfl : t = d := by omega
      go_wp2
      go_ret
      exact ⟨rfl, hbel⟩

end Go.Proofs.YtfooggamdbdniaaDoor
