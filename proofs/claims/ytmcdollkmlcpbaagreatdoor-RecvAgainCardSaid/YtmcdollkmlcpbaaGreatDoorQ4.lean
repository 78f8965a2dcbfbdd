/- Joined: Base, FrDat, Bit1. -/
import Derived.Test.YtmcdollkmlcpbaaGreatDoorRows
import Derived.Test.YtmcdollkmlcpbaaGreatDoorQ1
import Derived.WalkKit
import Derived.WalkSpells
import Derived.WalkLawsBesides
import Derived.Lib.Hide
import Derived.Deep.QuietTactic
import Derived.BigQuiet
set_option linter.unusedSimpArgs false
set_option linter.unusedVariables false
set_option linter.unusedSimpArgs false
set_option linter.unusedVariables false
namespace Go.Proofs.YtmcdollkmlcpbaaGreatDoor
open Go.RowKit
abbrev bv (b : UInt8) : Value := .int .u8 (b.toNat : Int)
def Bs (w : World) (A : Option Addr) (l : List UInt8) : Prop :=
 ∀ i b, l[i]? = some b → ∃ p o, A = some ⟨p, o, none⟩ ∧ w.cell? ⟨p, o + i, none⟩ = some (bv b)
theorem Bs.nil (w : World) (A : Option Addr) : Bs w A [] := fun i b h => by simp at h
theorem cell_lt {w : World} {a : Addr} {v : Value} (h : w.cell? a = some v) : a.block < w.heap.size := by
 unfold World.cell? at h
 rcases Nat.lt_or_ge a.block w.heap.size with hlt | hge
 ·exact hlt
 ·rw [Array.getElem?_eq_none hge] at h; simp at h
theorem Bs.below {w w' : World} {A : Option Addr} {l : List UInt8} (h : Bs w A l) (hb : Below w.heap.size w w') : Bs w' A l := fun i b hi => by
 obtain ⟨p, o, hA, hc⟩ := h i b hi
 exact ⟨p, o, hA, (hb.cell (cell_lt hc)).trans hc⟩
theorem Bs.at_ {w : World} {A : Option Addr} {l : List UInt8} (h : Bs w A l) (hl : 0 < l.length) :
  ∃ p o, A = some ⟨p, o, none⟩ ∧ p < w.heap.size ∧ ∀ i (hi : i < l.length), w.cell? ⟨p, o + i, none⟩ = some (bv l[i]) := by
 obtain ⟨p, o, hA, hc⟩ := h 0 l[0] (List.getElem?_eq_getElem hl)
 refine ⟨p, o, hA, cell_lt hc, fun i hi => ?_⟩
 obtain ⟨p', o', hA', hc'⟩ := h i l[i] (List.getElem?_eq_getElem hi)
 rw [hA] at hA'
 injection hA' with e
 injection e with e1 e2 _
 subst e1; subst e2
 exact hc'
theorem quiet_eq {P : Program} {f : FuncId} {args : Array Value} {w : World} {n : Nat} {v : Value}
  (h : Calls P f args (w.drewN n) fun e w' => e = .returned v ∧ w.drewN n = w') : Calls P f args (w.drewN n) fun e w'' => e = .returned v ∧ ∃ m, w'' = w.drewN m :=
 h.mono fun _ _ ⟨he, hm⟩ => ⟨he, n, hm.symm⟩
theorem below_drewN {B : Nat} {a w : World} (h : Below B a w) (n : Nat) : Below B a (w.drewN n) := ⟨h.os, h.tape, h.output, h.size, h.block⟩
theorem and_one_u8 (x : Nat) (hx : x < 256) : bits .and .u8 (x : Int) 1 = ((x % 2 : Nat) : Int) := by
 have h := bits_mask .u8 8 (by decide) (fun n h0 h1 => wraps_u8 n h0 h1) 1 (by decide) (x : Int) (by omega) (by omega)
 rw [show ((2 : Int) ^ 1 - 1) = 1 from rfl] at h
 rw [h]; omega
theorem or_u8 (x y : Nat) (hx : x < 256) (hy : y < 256) : bits .or .u8 (x : Int) (y : Int) = ((x ||| y : Nat) : Int) :=
 (bits_nat .u8 8 (by decide) (fun n h0 h1 => wraps_u8 n h0 h1) x y hx hy).2
theorem nat_shr (x k : Nat) : (x : Int) / 2 ^ k = ((x / 2 ^ k : Nat) : Int) := by
 rw [Int.natCast_ediv, Int.natCast_pow]; rfl
theorem shr_bit (x k : Nat) : x / 2 ^ k % 2 = b2n (x.testBit k) := by
 rw [Nat.testBit_eq_decide_div_mod_eq]; unfold b2n
 by_cases h : x / 2 ^ k % 2 = 1
 ·simp [h]
 ·simp [h]; omega
theorem wrap_big (x : Nat) (hx : x < 18446744073709551616) : IntKind.u64.wrap (x : Int) = x := by
 simp [IntKind.wrap, IntKind.bits, IntKind.signed]; omega
theorem mask_u8 (y q : Nat) (hy : y < 256) (hq : q ≤ 8) : bits .and .u8 (y : Int) ((2 ^ q - 1) % 256) = ((y % 2 ^ q : Nat) : Int) := by
 have h := bits_mask .u8 8 (by decide) (fun n h0 h1 => wraps_u8 n h0 h1) q hq (y : Int) (by omega) (by omega)
 have h2 : (2 : Nat) ^ q ≤ 2 ^ 8 := Nat.pow_le_pow_right (by decide) hq
 have h3 : 0 < (2 : Nat) ^ q := Nat.two_pow_pos q
 have e : ((2 : Int) ^ q - 1) % 256 = 2 ^ q - 1 := by
  have : ((2 : Int) ^ q) = ((2 ^ q : Nat) : Int) := by rw [Int.natCast_pow]; rfl
  rw [this]; omega
 rw [e, h, Int.natCast_emod, Int.natCast_pow]; rfl
theorem or_big (x y : Nat) (hx : x < 18446744073709551616) (hy : y < 18446744073709551616) : bits .or .u64 (x : Int) (y : Int) = ((x ||| y : Nat) : Int) :=
 (bits_nat .u64 64 (by decide) (fun n h0 h1 => by have := wrap_big n.toNat (by omega); rwa [Int.toNat_of_nonneg h0] at this) x y hx hy).2
theorem read_val (N y q : Nat) (hN : N * 2 ^ q < 18446744073709551616) (hq : q ≤ 8) (hy : y < 256) :
  bits .or .u64 (IntKind.u64.wrap ((N : Int) * 2 ^ q)) (IntKind.u64.wrap (bits .and .u8 (y : Int) ((2 ^ q - 1) % 256))) = (((N * 2 ^ q) ||| (y % 2 ^ q) : Nat) : Int) := by
 have h1 : y % 2 ^ q < 18446744073709551616 := Nat.lt_of_le_of_lt (Nat.mod_le _ _) (by omega)
 rw [mask_u8 y q hy hq, show ((N : Int) * 2 ^ q) = ((N * 2 ^ q : Nat) : Int) by rw [Int.natCast_mul, Int.natCast_pow]; rfl, wrap_big _ hN, wrap_big _ h1, or_big _ _ hN h1]
theorem wr_val (old : UInt8) (v r n q : Nat) (hn : n ≤ q) (hq : q ≤ 8) :
  bits .or .u8 (old.toNat : Int) (bits .and .u8 (((v / 2 ^ (r - n) : Nat) : Int) % 256) ((2 ^ n - 1) % 256) * 2 ^ (q - n) % 256) = (wrByte old v r n q : Int) := by
 have h1 : (((v / 2 ^ (r - n) : Nat) : Int) % 256) = ((v / 2 ^ (r - n) % 256 : Nat) : Int) := by omega
 rw [h1, mask_u8 _ n (Nat.mod_lt _ (by decide)) (by omega)]
 have h2 : v / 2 ^ (r - n) % 256 % 2 ^ n = v / 2 ^ (r - n) % 2 ^ n := Nat.mod_mod_of_dvd _ (show (2 : Nat) ^ n ∣ 2 ^ 8 from Nat.pow_dvd_pow 2 (by omega))
 rw [h2]
 have h3 := wrByte_part v r n q hn hq
 have h4 : (((v / 2 ^ (r - n) % 2 ^ n : Nat) : Int) * 2 ^ (q - n) % 256) = ((v / 2 ^ (r - n) % 2 ^ n * 2 ^ (q - n) : Nat) : Int) := by
  rw [show (((v / 2 ^ (r - n) % 2 ^ n : Nat) : Int) * 2 ^ (q - n)) = ((v / 2 ^ (r - n) % 2 ^ n * 2 ^ (q - n) : Nat) : Int) by rw [Int.natCast_mul, Int.natCast_pow]; rfl]
  omega
 rw [h4, or_u8 _ _ old.toNat_lt h3]
 rfl
theorem ret_int {k : IntKind} {a b : Int} (h : a = b) : Ending.returned (.int k a) = .returned (.int k b) := by rw [h]
theorem ret_bool {a b : Bool} (h : a = b) : Ending.returned (.bool a) = .returned (.bool b) := by rw [h]
end Go.Proofs.YtmcdollkmlcpbaaGreatDoor
set_option linter.unusedSimpArgs false
set_option linter.unusedVariables false
namespace Go.Proofs.YtmcdollkmlcpbaaGreatDoor
open Go.RowKit
structure FrD where
 kd : Nat
 ep : Nat
 se : Nat
 fc : Nat
 fb : Nat
 fn : Nat
 cn : Nat
 cl : Bool
 sm : Nat
 l : List UInt8
 n : Int
def FrD.ok (f : FrD) : Prop := f.kd < 256 ∧ f.ep < 4294967296 ∧ f.se < 4294967296 ∧ f.fc < 4294967296 ∧ f.fb < 4294967296 ∧ f.fn < 4294967296 ∧ f.cn < 4294967296 ∧ f.sm < 18446744073709551616 ∧ -9223372036854775808 ≤ f.n ∧ f.n ≤ 9223372036854775807
def zeroF : FrD := ⟨0, 0, 0, 0, 0, 0, 0, false, 0, [], 0⟩
def frC (f : FrD) (A : Option Addr) (c : Nat) : Array Value := #[.int .u8 (f.kd : Nat), .int .u32 (f.ep : Nat), .int .u32 (f.se : Nat), .int .u32 (f.fc : Nat), .int .u32 (f.fb : Nat), .int .u32 (f.fn : Nat), .int .u32 (f.cn : Nat), .bool f.cl, .int .u64 (f.sm : Nat), .slice A f.l.length c, .int .i64 f.n]
end Go.Proofs.YtmcdollkmlcpbaaGreatDoor
namespace Go.Proofs.YtmcdollkmlcpbaaGreatDoor
open Go.RowKit
set_option maxHeartbeats 400000 in
theorem bytesOf_any (n : Nat) (w : World) (hn : (n : Int) ≤ 9223372036854775807) :
  Calls Tryz.prog 58 #[.int .i64 n] w fun e w' => e = .returned (.int .i64 (nb n)) ∧ w = w' := by
 by_cases h : n % 8 = 0
 ·have hd : (((n : Int) % 8) != 0) = false := by simp; omega
  go_enter Tryz.func58, Tryz.ntmps58
  go_wp2
  go_ret
  exact ⟨ret_int (by unfold nb; omega), rfl⟩
 ·have hd : (((n : Int) % 8) != 0) = true := by simp; omega
  go_enter Tryz.func58, Tryz.ntmps58
  go_wp2
  go_ret
  exact ⟨ret_int (by unfold nb; omega), rfl⟩
theorem bytesOf_sum (m d : Nat) (w : World) (hn : m + d ≤ 9223372036854775807) :
  Calls Tryz.prog 58 #[.int .i64 ((m : Int) + (d : Int))] w fun e w' => e = .returned (.int .i64 (nb (m + d))) ∧ w = w' := by
 have h := bytesOf_any (m + d) w (by omega)
 rwa [Int.natCast_add] at h
theorem last_dec (x k : Nat) : (((x : Int) * 2 ^ k % 256) == 0) = decide (x * 2 ^ k % 256 = 0) := by
 have e : ((x : Int) * 2 ^ k % 256) = ((x * 2 ^ k % 256 : Nat) : Int) := by rw [Int.natCast_emod, Int.natCast_mul, Int.natCast_pow]; rfl
 rw [e]
 generalize x * 2 ^ k % 256 = m
 rw [Bool.eq_iff_iff, beq_iff_eq, decide_eq_true_eq]; omega
theorem sound_lt (l : List UInt8) {n : Int} (h : n < 0) : soundB l n = false := by simp [soundB]; omega
theorem sound_ne {l : List UInt8} {m : Nat} (h : ¬ l.length = nb m) : soundB l m = false := by simp [soundB, h]
theorem sound_zero {l : List UInt8} {m : Nat} (h : l.length = nb m) (h8 : m % 8 = 0) : soundB l m = true := by simp [soundB, h, h8]
theorem sound_last {l : List UInt8} {m : Nat} (h : l.length = nb m) (h8 : ¬ m % 8 = 0) (hp : l.length - 1 < l.length) :
  soundB l m = decide ((l[l.length - 1]).toNat * 2 ^ (m % 8) % 256 = 0) := by
 have e : l[l.length - 1]?.getD 0 = l[l.length - 1] := by rw [List.getElem?_eq_getElem hp]; rfl
 have e1 : soundB l m = decide ((l[l.length - 1]?.getD 0).toNat * 2 ^ (m % 8) % 256 = 0) := by simp [soundB, h8, h]
 rw [e1, e]
set_option maxHeartbeats 400000 in
theorem sound_any (A : Option Addr) (c : Nat) (l : List UInt8) (n : Int) (w : World) (hb : Bs w A l) (hn : -9223372036854775808 ≤ n ∧ n ≤ 9223372036854775807) (hl : l.length ≤ maxLen) :
  Calls Tryz.prog 57 #[.agg #[.slice A l.length c, .int .i64 n]] w fun e w' => e = .returned (.bool (soundB l n)) ∧ Below w.heap.size w w' := by
 unfold maxLen at hl
 by_cases h0 : n < 0
 ·have hd : decide (n < 0) = true := by simpa using h0
  go_enter Tryz.func57, Tryz.ntmps57
  go_wp2_with fail
  go_quiet (fail)
  go_wp2
  go_ret
  exact ⟨ret_bool (sound_lt l h0).symm, below_drewN ((Below.refl _ _).alloc (Nat.le_refl _) _) _⟩
 ·have hd : decide (n < 0) = false := by simpa using h0
  obtain ⟨m, rfl⟩ := Int.eq_ofNat_of_zero_le (show 0 ≤ n by omega)
  by_cases h1 : l.length = nb m
  ·have hg : (((l.length : Int) != (nb m : Int))) = false := by simp; omega
   have H1 := Lib.hid h1
   clear h1
   by_cases h8 : m % 8 = 0
   ·have he : (((m : Int) % 8) == 0) = true := by simp; omega
    have H8 := Lib.hid h8
    clear h8
    go_enter Tryz.func57, Tryz.ntmps57
    go_wp2_with fail
    go_quiet ((go_at_call 58; exact quiet_eq (bytesOf_any m _ (by omega))))
    go_wp2
    go_ret
    exact ⟨ret_bool (sound_zero H1.out H8.out).symm, below_drewN ((Below.refl _ _).alloc (Nat.le_refl _) _) _⟩
   ·have he : (((m : Int) % 8) == 0) = false := by simp; omega
    have hpos : 0 < l.length := by rw [H1.out]; unfold nb; omega
    have hp : l.length - 1 < l.length := by omega
    obtain ⟨p, o, rfl, hlt, hc⟩ := hb.at_ hpos
    have hc1 := hc _ hp
    clear hc
    go_enter Tryz.func57, Tryz.ntmps57
    go_wp2_with fail
    go_quiet ((go_at_call 58; exact quiet_eq (bytesOf_any m _ (by omega))))
    go_wp2
    go_ret
    rw [sound_last H1.out h8 hp]
    refine ⟨?_, below_drewN ((Below.refl _ _).alloc (Nat.le_refl _) _) _⟩
    exact ret_bool (last_dec _ _)
  ·have hg : (((l.length : Int) != (nb m : Int))) = true := by simp; omega
   have H1 := Lib.hid h1
   clear h1
   go_enter Tryz.func57, Tryz.ntmps57
   go_wp2_with fail
   go_quiet ((go_at_call 58; exact quiet_eq (bytesOf_any m _ (by omega))))
   go_wp2
   go_ret
   exact ⟨ret_bool (sound_ne H1.out).symm, below_drewN ((Below.refl _ _).alloc (Nat.le_refl _) _) _⟩
end Go.Proofs.YtmcdollkmlcpbaaGreatDoor
