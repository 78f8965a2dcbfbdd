/- Joined: Crc1, PutB. -/
import Derived.Test.YtpedobpbpomkaaaQ9
import Derived.Test.YtpedobpbpomkaaaQ1
import Derived.Test.YtpedobpbpomkaaaQ4
import Derived.Outline
import Derived.Deep.RegionWith
import Derived.Deep.DeepCutAuto
import Derived.Laws.Bits64
set_option linter.unusedSimpArgs false
set_option linter.unusedVariables false
/- Contracts of package crc and of the document's own sum, of one byte and of all. -/
namespace Go.Proofs.Ytpedobpbpomkaaa
open Go.RowKit

theorem bits_xor_nat (k : IntKind) (j : Nat) (hj : j ≤ k.bits) (hk : ∀ n : Int, 0 ≤ n → n < 2 ^ j → k.wrap n = n) (a b : Nat) (ha : a < 2 ^ j) (hb : b < 2 ^ j) : bits .xor k a b = ((a ^^^ b : Nat) : Int) := by
  have hp : 2 ^ j ≤ 2 ^ k.bits := Nat.pow_le_pow_right (by decide) hj
  have ha' : a % 2 ^ k.bits = a := Nat.mod_eq_of_lt (Nat.lt_of_lt_of_le ha hp)
  have hb' : b % 2 ^ k.bits = b := Nat.mod_eq_of_lt (Nat.lt_of_lt_of_le hb hp)
  have cast : ∀ n : Nat, n < 2 ^ j → ((n : Nat) : Int) < 2 ^ j := fun n h => by exact_mod_cast h
  simp only [bits, BitVec.ofInt_natCast, BitVec.toNat_xor, BitVec.toNat_ofNat, ha', hb']
  exact hk _ (Int.natCast_nonneg _) (cast _ (Nat.xor_lt_two_pow ha hb))
theorem wrap_32 (x : Nat) (hx : x < 4294967296) : IntKind.u32.wrap (x : Int) = x := by
  simp [IntKind.wrap, IntKind.bits, IntKind.signed]; omega
theorem xor_u32 (a b : Nat) (ha : a < 4294967296) (hb : b < 4294967296) : bits .xor .u32 (a : Int) (b : Int) = ((a ^^^ b : Nat) : Int) :=
  bits_xor_nat .u32 32 (by decide) (fun n h0 h1 => by have := wrap_32 n.toNat (by omega); rwa [Int.toNat_of_nonneg h0] at this) a b ha hb
theorem xor_u8 (a b : Nat) (ha : a < 256) (hb : b < 256) : bits .xor .u8 (a : Int) (b : Int) = ((a ^^^ b : Nat) : Int) :=
  bits_xor_nat .u8 8 (by decide) (fun n h0 h1 => wraps_u8 n h0 h1) a b ha hb
theorem and_one_u32 (x : Nat) (hx : x < 4294967296) : bits .and .u32 (x : Int) 1 = ((x % 2 : Nat) : Int) := by
  have h := bits_mask .u32 32 (by decide) (fun n h0 h1 => by have := wrap_32 n.toNat (by omega); rwa [Int.toNat_of_nonneg h0] at this) 1 (by decide) (x : Int) (by omega) (by omega)
  rw [show ((2 : Int) ^ 1 - 1) = 1 from rfl] at h
  rw [h]; omega

set_option maxRecDepth 100000 in
theorem eight_any (c : Nat) (w : World) (hc : c < 4294967296) :
    Calls Try.prog 60 #[.int .u32 c] w fun e w' => ∃ x : Nat, Hid (x = csteps 8 c) ∧ e = .returned (.int .u32 x) ∧ w = w' := by
  have HC := Lib.hid hc
  clear hc
  go_enter Try.func60, Try.ntmps60
  go_wp2_with fail
  go_loop [0, 4] (fun a i => ∃ x k : Nat, k ≤ 8 ∧ a = .int .u32 x ∧ i = .int .i64 k ∧ Hid (x = csteps k c)) (fun _ i => 8 - (intOf i).toNat)
  case atStart => exact ⟨c, 0, by omega, rfl, rfl, Lib.hid rfl⟩
  case round =>
    obtain ⟨x, k, hk, rfl, rfl, HX⟩ := hrel
    rcases Nat.lt_or_ge k 8 with hlt | hge
    · have hx : x < 4294967296 := by rw [HX.out]; exact csteps_lt k HC.out
      have hs := csteps_succ k c
      rw [← HX.out] at hs
      unfold cstep at hs
      obtain ⟨d, hd⟩ : ∃ d, d = x % 2 := ⟨_, rfl⟩
      obtain ⟨h, hh⟩ : ∃ h, h = x / 2 := ⟨_, rfl⟩
      have e1 : bits .and .u32 (x : Int) 1 = (d : Int) := by rw [hd]; exact and_one_u32 x hx
      have e2 : (x : Int) / 2 = (h : Int) := by omega
      rw [← hd, ← hh] at hs
      by_cases ho : d = 1
      · rw [if_pos ho] at hs
        have t1 : ((d : Int) == 1) = true := by simp; omega
        have t2 : (d == 1) = true := by simp; omega
        obtain ⟨y, hy⟩ : ∃ y, y = h ^^^ 2197175160 := ⟨_, rfl⟩
        have e3 : bits .xor .u32 (h : Int) 2197175160 = (y : Int) := by rw [hy]; exact xor_u32 h 2197175160 (by omega) (by decide)
        rw [← hy] at hs
        have HS := Lib.hid hs
        clear hs hd hh ho hy hx
        go_wp2_with fail
        go_round
        case rel => exact ⟨y, k + 1, by omega, rfl, by go_num, Lib.hid HS.out.symm⟩
        case measure => simp [intOf]; omega
      · rw [if_neg ho] at hs
        have t1 : ((d : Int) == 1) = false := by simp; omega
        have t2 : (d == 1) = false := by simp; omega
        have HS := Lib.hid hs
        clear hs hd hh ho hx
        go_wp2_with fail
        go_round
        case rel => exact ⟨h, k + 1, by omega, rfl, by go_num, Lib.hid HS.out.symm⟩
        case measure => simp [intOf]; omega
    · obtain rfl : k = 8 := by omega
      go_wp2_with fail
      go_ret
      exact ⟨x, HX, rfl, rfl⟩

/-- the table's cells: whether it is made, the lock, how often it was made, how many of its entries there are -/
def crcEnt (k i : Nat) : Value := .int .u32 (if i < k then csteps 8 i else 0 : Nat)
def crcArr (d : Nat) (l m : Int) (k : Nat) : Array Value := #[.int .u32 d, .int .i32 l, .int .u32 0, .int .i32 m] ++ ((List.range 256).map (crcEnt k)).toArray
theorem crcArr_size (d : Nat) (l m : Int) (k : Nat) : (crcArr d l m k).size = 260 := by simp [crcArr]
theorem crcArr_get (d : Nat) (l m : Int) (k i : Nat) (h : i < 256) : (crcArr d l m k)[4 + i]? = some (crcEnt k i) := by
  unfold crcArr
  rw [Array.getElem?_append_right (by simp)]
  simp [h]
theorem crcArr_0 (d : Nat) (l m : Int) (k : Nat) : (crcArr d l m k)[0]? = some (.int .u32 d) := by unfold crcArr; rw [Array.getElem?_append_left (by simp)]; rfl
theorem crcArr_1 (d : Nat) (l m : Int) (k : Nat) : (crcArr d l m k)[1]? = some (.int .i32 l) := by unfold crcArr; rw [Array.getElem?_append_left (by simp)]; rfl
theorem crcArr_3 (d : Nat) (l m : Int) (k : Nat) : (crcArr d l m k)[3]? = some (.int .i32 m) := by unfold crcArr; rw [Array.getElem?_append_left (by simp)]; rfl
theorem crcArr_set0 (d d' : Nat) (l m : Int) (k : Nat) : (crcArr d l m k).setIfInBounds 0 (.int .u32 d') = crcArr d' l m k := by unfold crcArr; rw [Array.setIfInBounds_append_left (by simp)]; rfl
theorem crcArr_set1 (d : Nat) (l l' m : Int) (k : Nat) : (crcArr d l m k).setIfInBounds 1 (.int .i32 l') = crcArr d l' m k := by unfold crcArr; rw [Array.setIfInBounds_append_left (by simp)]; rfl
theorem crcArr_set3 (d : Nat) (l m m' : Int) (k : Nat) : (crcArr d l m k).setIfInBounds 3 (.int .i32 m') = crcArr d l m' k := by unfold crcArr; rw [Array.setIfInBounds_append_left (by simp)]; rfl
theorem crcArr_set (d : Nat) (l m : Int) (k : Nat) (h : k < 256) : (crcArr d l m k).setIfInBounds (4 + k) (.int .u32 (csteps 8 k : Nat)) = crcArr d l m (k + 1) := by
  apply Array.ext_getElem?
  intro i
  rw [Array.getElem?_setIfInBounds]
  by_cases hi : 4 + k = i
  · subst hi
    rw [if_pos rfl, if_pos (by rw [crcArr_size]; omega), crcArr_get _ _ _ _ _ h]
    unfold crcEnt
    rw [if_pos (by omega)]
  · rw [if_neg hi]
    rcases Nat.lt_or_ge i 4 with h4 | h4
    · unfold crcArr
      rw [Array.getElem?_append_left (by simpa using h4), Array.getElem?_append_left (by simpa using h4)]
    · obtain ⟨j, rfl⟩ : ∃ j, i = 4 + j := ⟨i - 4, by omega⟩
      rcases Nat.lt_or_ge j 256 with hj | hj
      · rw [crcArr_get _ _ _ _ _ hj, crcArr_get _ _ _ _ _ hj]
        unfold crcEnt
        by_cases hjk : j < k
        · rw [if_pos hjk, if_pos (by omega)]
        · rw [if_neg hjk, if_neg (by omega)]
      · rw [Array.getElem?_eq_none (by rw [crcArr_size]; omega), Array.getElem?_eq_none (by rw [crcArr_size]; omega)]

/-- a table that was not used; one that was -/
def TabF (w : World) (g : Nat) : Prop := Blk w g 95 (crcArr 0 0 0 0)
def TabM (w : World) (g : Nat) : Prop := Blk w g 95 (crcArr 1 0 1 256)

theorem crcNew_any (w : World) : Calls Try.prog 31 #[] w fun e w' => e = .returned (.pointer (some ⟨w.heap.size, 0, none⟩)) ∧ TabF w' w.heap.size ∧ Below w.heap.size w w' := by
  go_enter Try.func31, Try.ntmps31
  go_wp2_with fail
  exact bodyPost_ret (v := .pointer (some ⟨w.heap.size, 0, none⟩)) (by simp [results, Try.results31, go_sem]) rfl ⟨rfl, Eq.subst (motive := fun cs => Blk _ _ _ cs) (by kernel_rfl) (Blk.new w _ _), below_alloc _ _⟩
end Go.Proofs.Ytpedobpbpomkaaa

/- A store into bytes of the call's own, kept in the bundle. -/
set_option linter.unusedSimpArgs false
set_option linter.unusedVariables false
namespace Go.Proofs.Ytpedobpbpomkaaa
open Go.RowKit

/-- a store into bytes of the call's own -/
theorem Qs.putB {w : World} {ks : List Kq} (h : Qs w ks) (i g k n cap base hi : Nat) (x : UInt8) {l : List UInt8} (ha : apBut g i ks) (e : ks[i]? = some (qO base hi (.slice (some ⟨g, 0, none⟩) n cap) l) := by rfl) : Qs (w.setCell ⟨g, k, none⟩ (bv x)) (ks.set i (qO base hi (.slice (some ⟨g, 0, none⟩) n cap) (l.set k x))) := by
  intro q hq
  obtain ⟨j, hj⟩ := List.getElem?_of_mem hq
  by_cases hji : j = i
  · subst hji
    rw [List.getElem?_set_self (List.getElem?_eq_some_iff.1 e).1] at hj
    injection hj with hj
    subst hj
    have h1 : OwnB w base (.slice (some ⟨g, 0, none⟩) n cap) l ∧ (∀ k, (Value.slice (some ⟨g, 0, none⟩) n cap).ownBlock = some k → k < hi) ∧ hi ≤ w.heap.size := h.get j e
    exact ⟨h1.1.set k x, h1.2.1, Nat.le_trans h1.2.2 (grown_set w g k (bv x)).size⟩
  · rw [List.getElem?_set_ne (fun e => hji e.symm)] at hj
    exact q.go w _ _ (h.get j hj) (grown_set w g k (bv x)) (fun y ey => by injection ey with ey; subst ey; exact but_mem ha j q hji hj)
theorem Qs.hiB {w : World} {ks : List Kq} (h : Qs w ks) (i g n cap base hi : Nat) {l : List UInt8} (e : ks[i]? = some (qO base hi (.slice (some ⟨g, 0, none⟩) n cap) l) := by rfl) : g < hi ∧ hi ≤ w.heap.size ∧ base ≤ g := by
  have h1 : OwnB w base (.slice (some ⟨g, 0, none⟩) n cap) l ∧ (∀ k, (Value.slice (some ⟨g, 0, none⟩) n cap).ownBlock = some k → k < hi) ∧ hi ≤ w.heap.size := h.get i e
  exact ⟨h1.2.1 g rfl, h1.2.2, h1.1.lt.1⟩

theorem flip_b (x : UInt8) : ∃ y : UInt8, Value.int .u8 (bits .xor .u8 (x.toNat : Int) 255) = bv y := by
  refine ⟨UInt8.ofNat (x.toNat ^^^ 255), ?_⟩
  have hlt : x.toNat ^^^ 255 < 256 := Nat.xor_lt_two_pow (n := 8) x.toNat_lt (by decide)
  rw [show (255 : Int) = ((255 : Nat) : Int) from rfl, xor_u8 _ _ x.toNat_lt (by decide)]
  unfold bv
  rw [UInt8.toNat_ofNat_of_lt' hlt]

end Go.Proofs.Ytpedobpbpomkaaa
