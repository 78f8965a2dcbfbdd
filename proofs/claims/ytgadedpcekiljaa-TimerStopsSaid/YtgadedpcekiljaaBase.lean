/-
  Words for memory that the other texts of this seat use: a slice of bytes that reads as a list; small lemmas on worlds.
-/
import Derived.Test.YtgadedpcekiljaaRows
import Derived.Test.YtgadedpcekiljaaMath
import Derived.WalkKit
import Derived.WalkSpells
import Derived.WalkLawsBesides
import Derived.Lib.Hide
import Derived.Deep.QuietTactic
import Derived.BigQuiet
set_option linter.unusedSimpArgs false
set_option linter.unusedVariables false
namespace Go.Proofs.Ytgadedpcekiljaa
open Go.RowKit

/-- a number as a byte of memory -/
abbrev bv (b : UInt8) : Value := .int .u8 (b.toNat : Int)

/-- the cells from A on hold the bytes l -/
def Bs (w : World) (A : Option Addr) (l : List UInt8) : Prop :=
  ∀ i b, l[i]? = some b → ∃ p o, A = some ⟨p, o, none⟩ ∧ w.cell? ⟨p, o + i, none⟩ = some (bv b)

theorem Bs.nil (w : World) (A : Option Addr) : Bs w A [] := fun i b h => by simp at h

theorem cell_lt {w : World} {a : Addr} {v : Value} (h : w.cell? a = some v) : a.block < w.heap.size := by
  unfold World.cell? at h
  rcases Nat.lt_or_ge a.block w.heap.size with hlt | hge
  · exact hlt
  · rw [Array.getElem?_eq_none hge] at h; simp at h

theorem Bs.below {w w' : World} {A : Option Addr} {l : List UInt8} (h : Bs w A l) (hb : Below w.heap.size w w') : Bs w' A l := fun i b hi => by
  obtain ⟨p, o, hA, hc⟩ := h i b hi
  exact ⟨p, o, hA, (hb.cell (cell_lt hc)).trans hc⟩

theorem Bs.at_ {w : World} {A : Option Addr} {l : List UInt8} (h : Bs w A l) (hl : 0 < l.length) :
    ∃ p o, A = some ⟨p, o, none⟩ ∧ p < w.heap.size ∧ ∀ i (hi : i < l.length), w.cell? ⟨p, o + i, none⟩ = some (bv l[i]) := by
  obtain ⟨p, o, hA, hc⟩ := h 0 l[0] (List.getElem?_eq_getElem hl)
  refine ⟨p, o, hA, cell_lt hc, fun i hi => ?_⟩
  obtain ⟨p', o', hA', hc'⟩ := h i l[i] (List.getElem?_eq_getElem hi)
  rw [hA] at hA'
  injection hA' with e
  injection e with e1 e2 _
  subst e1; subst e2
  exact hc'

/-- a callee's contract 'w = w'' as go_quiet wants it -/
theorem quiet_eq {P : Program} {f : FuncId} {args : Array Value} {w : World} {n : Nat} {v : Value}
    (h : Calls P f args (w.drewN n) fun e w' => e = .returned v ∧ w.drewN n = w') : Calls P f args (w.drewN n) fun e w'' => e = .returned v ∧ ∃ m, w'' = w.drewN m :=
  h.mono fun _ _ ⟨he, hm⟩ => ⟨he, n, hm.symm⟩

theorem below_drewN {B : Nat} {a w : World} (h : Below B a w) (n : Nat) : Below B a (w.drewN n) := ⟨h.os, h.tape, h.output, h.size, h.block⟩

theorem and_one_u8 (x : Nat) (hx : x < 256) : bits .and .u8 (x : Int) 1 = ((x % 2 : Nat) : Int) := by
  have h := bits_mask .u8 8 (by decide) (fun n h0 h1 => wraps_u8 n h0 h1) 1 (by decide) (x : Int) (by omega) (by omega)
  rw [show ((2 : Int) ^ 1 - 1) = 1 from rfl] at h
  rw [h]; omega
theorem or_u8 (x y : Nat) (hx : x < 256) (hy : y < 256) : bits .or .u8 (x : Int) (y : Int) = ((x ||| y : Nat) : Int) :=
  (bits_nat .u8 8 (by decide) (fun n h0 h1 => wraps_u8 n h0 h1) x y hx hy).2
theorem or_val (X : UInt8) (b : Bool) (k : Nat) (hk : k < 8) : Value.int .u8 (bits .or .u8 (X.toNat : Int) (((b2u b).toNat : Int) * 2 ^ k % 256)) = bv (orBit X b k) := by
  have e : (((b2u b).toNat : Int) * 2 ^ k % 256) = ((b2n b * 2 ^ k : Nat) : Int) := by
    have h := shl_byte b k hk
    rw [b2u_toNat, show ((b2n b : Int) * 2 ^ k) = ((b2n b * 2 ^ k : Nat) : Int) by rw [Int.natCast_mul, Int.natCast_pow]; rfl]
    omega
  rw [e, or_u8 _ _ X.toNat_lt (shl_byte b k hk)]
  show _ = Value.int .u8 _
  rw [orBit_toNat _ _ _ hk]
theorem nat_shr (x k : Nat) : (x : Int) / 2 ^ k = ((x / 2 ^ k : Nat) : Int) := by
  rw [Int.natCast_ediv, Int.natCast_pow]; rfl
theorem shr_bit (x k : Nat) : x / 2 ^ k % 2 = b2n (x.testBit k) := by
  rw [Nat.testBit_eq_decide_div_mod_eq]; unfold b2n
  by_cases h : x / 2 ^ k % 2 = 1
  · simp [h]
  · simp [h]; omega

theorem wrap_big (x : Nat) (hx : x < 18446744073709551616) : IntKind.u64.wrap (x : Int) = x := by
  simp [IntKind.wrap, IntKind.bits, IntKind.signed]; omega
theorem mask_u8 (y q : Nat) (hy : y < 256) (hq : q ≤ 8) : bits .and .u8 (y : Int) ((2 ^ q - 1) % 256) = ((y % 2 ^ q : Nat) : Int) := by
  have h := bits_mask .u8 8 (by decide) (fun n h0 h1 => wraps_u8 n h0 h1) q hq (y : Int) (by omega) (by omega)
  have h2 : (2 : Nat) ^ q ≤ 2 ^ 8 := Nat.pow_le_pow_right (by decide) hq
  have h3 : 0 < (2 : Nat) ^ q := Nat.two_pow_pos q
  have e : ((2 : Int) ^ q - 1) % 256 = 2 ^ q - 1 := by
    have : ((2 : Int) ^ q) = ((2 ^ q : Nat) : Int) := by rw [Int.natCast_pow]; rfl
    rw [this]; omega
  rw [e, h, Int.natCast_emod, Int.natCast_pow]; rfl
theorem or_big (x y : Nat) (hx : x < 18446744073709551616) (hy : y < 18446744073709551616) : bits .or .u64 (x : Int) (y : Int) = ((x ||| y : Nat) : Int) :=
  (bits_nat .u64 64 (by decide) (fun n h0 h1 => by have := wrap_big n.toNat (by omega); rwa [Int.toNat_of_nonneg h0] at this) x y hx hy).2
theorem read_val (N y q : Nat) (hN : N * 2 ^ q < 18446744073709551616) (hq : q ≤ 8) (hy : y < 256) :
    bits .or .u64 (IntKind.u64.wrap ((N : Int) * 2 ^ q)) (IntKind.u64.wrap (bits .and .u8 (y : Int) ((2 ^ q - 1) % 256))) = (((N * 2 ^ q) ||| (y % 2 ^ q) : Nat) : Int) := by
  have h1 : y % 2 ^ q < 18446744073709551616 := Nat.lt_of_le_of_lt (Nat.mod_le _ _) (by omega)
  rw [mask_u8 y q hy hq, show ((N : Int) * 2 ^ q) = ((N * 2 ^ q : Nat) : Int) by rw [Int.natCast_mul, Int.natCast_pow]; rfl, wrap_big _ hN, wrap_big _ h1, or_big _ _ hN h1]

theorem wr_val (old : UInt8) (v r n q : Nat) (hn : n ≤ q) (hq : q ≤ 8) :
    bits .or .u8 (old.toNat : Int) (bits .and .u8 (((v / 2 ^ (r - n) : Nat) : Int) % 256) ((2 ^ n - 1) % 256) * 2 ^ (q - n) % 256) = (wrByte old v r n q : Int) := by
  have h1 : (((v / 2 ^ (r - n) : Nat) : Int) % 256) = ((v / 2 ^ (r - n) % 256 : Nat) : Int) := by omega
  rw [h1, mask_u8 _ n (Nat.mod_lt _ (by decide)) (by omega)]
  have h2 : v / 2 ^ (r - n) % 256 % 2 ^ n = v / 2 ^ (r - n) % 2 ^ n := Nat.mod_mod_of_dvd _ (show (2 : Nat) ^ n ∣ 2 ^ 8 from Nat.pow_dvd_pow 2 (by omega))
  rw [h2]
  have h3 := wrByte_part v r n q hn hq
  have h4 : (((v / 2 ^ (r - n) % 2 ^ n : Nat) : Int) * 2 ^ (q - n) % 256) = ((v / 2 ^ (r - n) % 2 ^ n * 2 ^ (q - n) : Nat) : Int) := by
    rw [show (((v / 2 ^ (r - n) % 2 ^ n : Nat) : Int) * 2 ^ (q - n)) = ((v / 2 ^ (r - n) % 2 ^ n * 2 ^ (q - n) : Nat) : Int) by rw [Int.natCast_mul, Int.natCast_pow]; rfl]
    omega
  rw [h4, or_u8 _ _ old.toNat_lt h3]
  rfl

theorem ret_int {k : IntKind} {a b : Int} (h : a = b) : Ending.returned (.int k a) = .returned (.int k b) := by rw [h]
theorem ret_bool {a b : Bool} (h : a = b) : Ending.returned (.bool a) = .returned (.bool b) := by rw [h]

end Go.Proofs.Ytgadedpcekiljaa
