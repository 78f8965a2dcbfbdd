/- slices.Sort: xorshift.Next of both. -/
import Derived.Test.YtgadedpcekiljaaSrt8
set_option linter.unusedSimpArgs false
set_option linter.unusedVariables false
namespace Go.Proofs.Ytgadedpcekiljaa
open Go.RowKit
set_option maxRecDepth 100000
set_option maxHeartbeats 4000000 in
theorem next_any {B : Nat} {w0 w : World} {ts : List Kt} {s : Nat} {r : UInt64} (h : Sep B w0 w (thB s 74 #[.int .u64 (r.toNat : Nat)] :: ts)) :
    Calls Try.prog 39 #[.pointer (some ⟨s, 0, none⟩)] w fun e w' => e = .returned (.int .u64 ((Go.Sort.xorNext r).toNat : Nat)) ∧ Sep B w0 w' (thB s 74 #[.int .u64 ((Go.Sort.xorNext r).toNat : Nat)] :: ts) := by
  have hs : ∀ (x : UInt64) (k : Nat) (hk : k < 64), IntKind.u64.wrap (((x.toNat : Nat) : Int) * ((2 ^ k : Nat) : Int)) = (((x <<< UInt64.ofNat k).toNat : Nat) : Int) := fun x k hk => by
    rw [IntKind.wrap_u64]
    rw [UInt64.toNat_shiftLeft, Nat.shiftLeft_eq]
    have : (UInt64.ofNat k).toNat % 64 = k := by simp; omega
    rw [this]
    omega
  have hx : ∀ (x y : UInt64), bits BinOp.xor IntKind.u64 ((x.toNat : Nat) : Int) ((y.toNat : Nat) : Int) = (((x ^^^ y).toNat : Nat) : Int) := fun x y => by
    unfold bits
    have e : ∀ z : UInt64, BitVec.ofInt IntKind.u64.bits ((z.toNat : Nat) : Int) = z.toBitVec := fun z => by
      apply BitVec.eq_of_toNat_eq
      show _ = z.toNat
      rw [BitVec.toNat_ofInt]
      have := z.toNat_lt
      show (((z.toNat : Nat) : Int) % ((2 ^ 64 : Nat) : Int)).toNat = z.toNat
      omega
    dsimp only
    rw [e, e]
    show IntKind.u64.wrap (((x ^^^ y).toNat : Nat) : Int) = _
    rw [IntKind.wrap_u64]
    have := (x ^^^ y).toNat_lt
    omega
  obtain ⟨r1, hr1⟩ : ∃ x, x = r ^^^ (r <<< 13) := ⟨_, rfl⟩
  obtain ⟨r2, hr2⟩ : ∃ x, x = r1 ^^^ (r1 >>> 7) := ⟨_, rfl⟩
  have hr3 : Go.Sort.xorNext r = r2 ^^^ (r2 <<< 17) := by rw [hr2, hr1]; rfl
  rw [hr3]
  obtain ⟨X, hX⟩ : ∃ X, X = r.toNat := ⟨_, rfl⟩
  obtain ⟨Z1, hZ1⟩ : ∃ Z, Z = (r <<< 13).toNat := ⟨_, rfl⟩
  obtain ⟨X1, hX1⟩ : ∃ X, X = r1.toNat := ⟨_, rfl⟩
  obtain ⟨Z2, hZ2⟩ : ∃ Z, Z = (r1 >>> 7).toNat := ⟨_, rfl⟩
  obtain ⟨X2, hX2⟩ : ∃ X, X = r2.toNat := ⟨_, rfl⟩
  obtain ⟨Z3, hZ3⟩ : ∃ Z, Z = (r2 <<< 17).toNat := ⟨_, rfl⟩
  obtain ⟨X3, hX3⟩ : ∃ X, X = (r2 ^^^ (r2 <<< 17)).toNat := ⟨_, rfl⟩
  have a1 : IntKind.u64.wrap ((X : Int) * 8192) = (Z1 : Int) := by rw [hX, hZ1]; exact hs r 13 (by omega)
  have a3 : bits BinOp.xor IntKind.u64 (X : Int) (Z1 : Int) = (X1 : Int) := by rw [hX, hZ1, hX1, hr1]; exact hx _ _
  have b1 : (X1 : Int) / 128 = (Z2 : Int) := by
    rw [hX1, hZ2, UInt64.toNat_shiftRight, Nat.shiftRight_eq_div_pow]
    rfl
  have b3 : bits BinOp.xor IntKind.u64 (X1 : Int) (Z2 : Int) = (X2 : Int) := by rw [hX1, hZ2, hX2, hr2]; exact hx _ _
  have c1 : IntKind.u64.wrap ((X2 : Int) * 131072) = (Z3 : Int) := by rw [hX2, hZ3]; exact hs r2 17 (by omega)
  have c3 : bits BinOp.xor IntKind.u64 (X2 : Int) (Z3 : Int) = (X3 : Int) := by rw [hX2, hZ3, hX3]; exact hx _ _
  rw [← hX3]
  rw [← hX] at h
  have C : cellsSay w s 0 [.int .u64 (X : Nat)] := cells_say (h.blk 0) _ 0 rfl
  simp only [cellsSay, Nat.reduceAdd, and_true] at C
  have H := Lib.hid h
  clear h hX hZ1 hX1 hZ2 hX2 hZ3 hX3 hr1 hr2 hr3 hs hx
  go_enter Try.func39, Try.ntmps39
  go_wp2_with fail
  go_region
  obtain ⟨w1, hw⟩ : ∃ W, W = (w.setCell ⟨s, 0, none⟩ (.int .u64 (X1 : Nat))).drew := ⟨_, rfl⟩
  have h1 : Sep B w0 w1 (thB s 74 #[.int .u64 (X1 : Nat)] :: ts) := by
    rw [hw]
    exact (H.out.put 0 s [(0, .int .u64 (X1 : Nat))] #[.int .u64 (X1 : Nat)] rfl).go (Below.refl _ _).drew
  rw [← hw]
  clear hw H C
  have H := Lib.hid h1
  have C : cellsSay w1 s 0 [.int .u64 (X1 : Nat)] := cells_say (h1.blk 0) _ 0 rfl
  simp only [cellsSay, Nat.reduceAdd, and_true] at C
  clear h1
  go_wp2_with fail
  go_region
  obtain ⟨w2, hw⟩ : ∃ W, W = (w1.setCell ⟨s, 0, none⟩ (.int .u64 (X2 : Nat))).drew := ⟨_, rfl⟩
  have h1 : Sep B w0 w2 (thB s 74 #[.int .u64 (X2 : Nat)] :: ts) := by
    rw [hw]
    exact (H.out.put 0 s [(0, .int .u64 (X2 : Nat))] #[.int .u64 (X2 : Nat)] rfl).go (Below.refl _ _).drew
  rw [← hw]
  clear hw H C
  have H := Lib.hid h1
  have C : cellsSay w2 s 0 [.int .u64 (X2 : Nat)] := cells_say (h1.blk 0) _ 0 rfl
  simp only [cellsSay, Nat.reduceAdd, and_true] at C
  clear h1
  go_wp2_with fail
  go_region
  obtain ⟨w3, hw⟩ : ∃ W, W = (w2.setCell ⟨s, 0, none⟩ (.int .u64 (X3 : Nat))).drew := ⟨_, rfl⟩
  have h1 : Sep B w0 w3 (thB s 74 #[.int .u64 (X3 : Nat)] :: ts) := by
    rw [hw]
    exact (H.out.put 0 s [(0, .int .u64 (X3 : Nat))] #[.int .u64 (X3 : Nat)] rfl).go (Below.refl _ _).drew
  rw [← hw]
  clear hw H C
  have H := Lib.hid h1
  have C : cellsSay w3 s 0 [.int .u64 (X3 : Nat)] := cells_say (h1.blk 0) _ 0 rfl
  simp only [cellsSay, Nat.reduceAdd, and_true] at C
  clear h1
  go_wp2_with fail
  go_ret
  exact ⟨rfl, H.out⟩
end Go.Proofs.Ytgadedpcekiljaa
