/- Contracts of package bit: lay. -/
import Derived.Test.YtfooggamdbdniaaDoorBit1
import Derived.Test.YtfooggamdbdniaaDoorOwn
import Derived.Test.YtfooggamdbdniaaDoorMathL
namespace Go.Proofs.YtfooggamdbdniaaDoor
open Go.RowKit

theorem only_set {w0 w : World} {g : Nat} (h : w0.grownBy w (some g)) (j : Nat) (u : Value) : w0.grownBy (w.setCell ⟨g, j, none⟩ u) (some g) :=
  ⟨h.os, h.tape, h.output, by have := h.size; simpa [World.setCell] using this, fun k hk hne => (Below.heap_setCell w ⟨g, j, none⟩ u k (fun e => hne (by rw [e]))).trans (h.block k hk hne)⟩
theorem only_drew {w0 w : World} {g : Nat} (h : w0.grownBy w (some g)) : w0.grownBy w.drew (some g) := ⟨h.os, h.tape, h.output, h.size, h.block⟩
theorem only_cell {w0 w : World} {g : Nat} (h : w0.grownBy w (some g)) {p i : Nat} {v : Value} (hc : w0.cell? ⟨p, i, none⟩ = some v) (hp : p ≠ g) : w.cell? ⟨p, i, none⟩ = some v :=
  h.cell hc (fun e => hp (by injection e))

theorem or_lay (b c : UInt8) (s : Nat) : Value.int .u8 (bits .or .u8 (b.toNat : Int) ((c.toNat : Int) / 2 ^ s)) = bv (UInt8.ofNat (b.toNat ||| c.toNat / 2 ^ s)) := by
  have h : c.toNat / 2 ^ s < 256 := Nat.lt_of_le_of_lt (Nat.div_le_self _ _) c.toNat_lt
  rw [nat_shr, or_u8 _ _ b.toNat_lt h, bv, UInt8.toNat_ofNat_of_lt' (Nat.or_lt_two_pow (n := 8) b.toNat_lt h)]
theorem low_val (c : UInt8) (s : Nat) : ((c.toNat : Int) * 2 ^ (8 - s) % 256) = (lowOf c s : Int) := by
  unfold lowOf; rw [Int.natCast_emod, Int.natCast_mul, Int.natCast_pow]; rfl
theorem or_low (b c : UInt8) (s : Nat) : Value.int .u8 (bits .or .u8 (b.toNat : Int) ((c.toNat : Int) * 2 ^ (8 - s) % 256)) = bv (UInt8.ofNat (b.toNat ||| lowOf c s)) := by
  rw [low_val, or_u8 _ _ b.toNat_lt (lowOf_lt c s), bv, UInt8.toNat_ofNat_of_lt' (Nat.or_lt_two_pow (n := 8) b.toNat_lt (lowOf_lt c s))]

set_option maxHeartbeats 2000000 in
theorem lay_any (base g cap N : Nat) (L x : List UInt8) (a n : Nat) (B : Option Addr) (cx : Nat) (w : World) (ho : OwnB w base (.slice (some ⟨g, 0, none⟩) N cap) L) (hx : Bs w B x) (hsep : 0 < x.length → ∀ p o, B = some ⟨p, o, none⟩ → p ≠ g)
    (hz : ∀ i, n ≤ i → bt x i = false) (hnx : x.length = nb n) (hroom : a + n ≤ 8 * N) (hN : N ≤ 2199023255552) :
    Calls Tryd.prog 35 #[.slice (some ⟨g, 0, none⟩) N cap, .int .i64 a, .slice B x.length cx] w fun e w' => e = .returned (.tuple #[]) ∧
      ∃ L', OwnB w' base (.slice (some ⟨g, 0, none⟩) N cap) L' ∧ Hid (LayAt L x a x.length L') ∧ w.grownBy w' (some g) := by
  have hLN : L.length = N := by have := ho.len (g := g); omega
  have hidx : ∀ k, k < x.length → a / 8 + k < N := fun k hk => by rw [hnx] at hk; unfold nb at hk; omega
  have hxl : x.length ≤ N + 1 := by rw [hnx]; unfold nb; omega
  have HZ := Lib.hid hz
  have HI := Lib.hid hidx
  have HL := Lib.hid hLN
  clear hz hidx hnx hLN
  go_enter Tryd.func35, Tryd.ntmps35
  go_wp2
  go_loopw [17] (fun q wr => ∃ (k : Nat) (bb : List UInt8), k ≤ x.length ∧ q = .int .i64 k ∧ OwnB wr base (.slice (some ⟨g, 0, none⟩) N cap) bb ∧ Hid (LayAt L x a k bb) ∧ w.grownBy wr (some g))
    (fun q _ => x.length - (intOf q).toNat)
  case atStart => exact ⟨0, L, Nat.zero_le _, rfl, ho, LayAt.zero L x a, World.grownBy.refl _ _⟩
  case round =>
    obtain ⟨k, bb, hk, rfl, hown, HC, hg⟩ := hrel
    have hbl : N ≤ bb.length := by have h1 := HC.out.1; have h2 := HL.out; omega
    by_cases hlt : k < x.length
    · have hki := HI.out k hlt
      obtain ⟨p, o, rfl, hpl, hc⟩ := hx.at_ (show 0 < x.length by omega)
      have hpg := hsep (by omega) p o rfl
      have hcx := only_cell hg (hc k hlt) hpg
      have hx1 := hown.cell (a / 8 + k) (by omega)
      have hf1 := hown.frozen (a / 8 + k)
      have hkI : (a : Int) / 8 + k < N := by omega
      have hlo := low_val x[k] (a % 8)
      clear hc
      by_cases h0 : lowOf x[k] (a % 8) = 0
      · have hz0 : ((x[k].toNat : Int) * 2 ^ (8 - a % 8) % 256 != 0) = false := by rw [hlo, h0]; rfl
        have H0 := Lib.hid h0
        clear h0 hlo
        go_wp2
        go_region
        go_wp2
        go_roundw
        case measure => simp [intOf]; omega
        case rel =>
          rw [or_lay]
          exact ⟨k + 1, _, by omega, by go_num, (hown.set _ _).drew, HC.out.step1 (List.getElem?_eq_getElem hlt) (by omega) H0.out, only_drew (only_set hg _ _)⟩
      · have hz0 : ((x[k].toNat : Int) * 2 ^ (8 - a % 8) % 256 != 0) = true := by rw [hlo, bne_iff_ne]; omega
        have hn2 := lay_room (List.getElem?_eq_getElem hlt) HZ.out hroom h0
        have hnI : (a : Int) / 8 + k + 1 < N := by omega
        have hx2 := hown.cell (a / 8 + k + 1) (by omega)
        have hf2 := hown.frozen (a / 8 + k + 1)
        have fx2 := fun (W : World) (u : Value) => World.cell?_setCell_other W ⟨g, a / 8 + k, none⟩ ⟨g, a / 8 + k + 1, none⟩ u (by intro e; injection e with _ e; omega)
        clear h0 hlo
        go_wp2
        go_region
        go_wp2
        go_roundw
        case measure => simp [intOf]; omega
        case rel =>
          rw [or_lay, or_low]
          exact ⟨k + 1, _, by omega, by go_num, ((hown.set _ _).drew.set _ _), HC.out.step2 (List.getElem?_eq_getElem hlt) (by omega) (by omega), only_set (only_drew (only_set hg _ _)) _ _⟩
    · obtain rfl : k = x.length := by omega
      go_wp2
      go_end0
      exact ⟨rfl, bb, hown, HC, hg⟩

end Go.Proofs.YtfooggamdbdniaaDoor
