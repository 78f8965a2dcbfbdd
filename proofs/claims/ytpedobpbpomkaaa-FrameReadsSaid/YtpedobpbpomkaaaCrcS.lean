/- Sum of lists of bytes, and the document's own. -/
import Derived.Test.YtpedobpbpomkaaaCrc2
namespace Go.Proofs.Ytpedobpbpomkaaa
open Go.RowKit

theorem not_nat (x : Nat) (hx : x < 4294967296) : 4294967295 ^^^ x = 4294967295 - x := by
  apply Nat.eq_of_testBit_eq
  intro i
  have h1 := Nat.testBit_two_pow_sub_succ (n := 32) (x := x) hx i
  have h2 := Nat.testBit_two_pow_sub_one 32 i
  rw [show 2 ^ 32 - (x + 1) = 4294967295 - x by omega] at h1
  rw [show 2 ^ 32 - 1 = 4294967295 from rfl] at h2
  rw [Nat.testBit_xor, h1, h2]
  by_cases hi : i < 32
  · simp [hi]
  · have : x.testBit i = false := Nat.testBit_lt_two_pow (Nat.lt_of_lt_of_le hx (Nat.pow_le_pow_right (n := 2) (by decide) (show 32 ≤ i by omega)))
    simp [hi, this]
theorem not_u32 (x : Nat) (hx : x < 4294967296) : bits .xor .u32 IntKind.u32.max (x : Int) = ((4294967295 - x : Nat) : Int) := by
  rw [← not_nat x hx]
  exact xor_u32 4294967295 x (by decide) hx

/-- bytes that lie in no cell of block g -/
def Bsf (w : World) (g : Nat) (A : Option Addr) (l : List UInt8) : Prop := ∀ i b, l[i]? = some b → ∃ p o, A = some ⟨p, o, none⟩ ∧ p ≠ g ∧ w.cell? ⟨p, o + i, none⟩ = some (bv b)
theorem Bsf.bs {w : World} {g : Nat} {A : Option Addr} {l : List UInt8} (h : Bsf w g A l) : Bs w A l := fun i b hi => by
  obtain ⟨p, o, e, _, hc⟩ := h i b hi
  exact ⟨p, o, e, hc⟩
theorem Bsf.tch {w w' : World} {g : Nat} {A : Option Addr} {l : List UInt8} (h : Bsf w g A l) (t : Tch g w w') : Bsf w' g A l := fun i b hi => by
  obtain ⟨p, o, e, hp, hc⟩ := h i b hi
  refine ⟨p, o, e, hp, ?_⟩
  rw [World.cell?_of_block (t.block p (cell_lt hc) (by intro e2; injection e2 with e2; exact hp e2))]
  exact hc
theorem Bsf.below {w w' : World} {g : Nat} {A : Option Addr} {l : List UInt8} (h : Bsf w g A l) (t : Below w.heap.size w w') : Bsf w' g A l := h.tch (Tch.of_below t)
theorem Bs.far {w : World} {g : Nat} {A : Option Addr} {l : List UInt8} (h : Bs w A l) (hg : w.heap.size ≤ g) : Bsf w g A l := fun i b hi => by
  obtain ⟨p, o, e, hc⟩ := h i b hi
  have := cell_lt hc
  simp only at this
  exact ⟨p, o, e, by omega, hc⟩
theorem Bs.past {w w' : World} {g : Nat} {A : Option Addr} {l : List UInt8} (h : Bs w A l) (hb : Below w.heap.size w w') (hg : w.heap.size ≤ g) : Bsf w' g A l := (h.far hg).below hb
theorem OwnB.far' {w : World} {base g n c : Nat} {A : Option Addr} {l : List UInt8} (h : OwnB w base (.slice A n c) l) (hg : g < base) : Bsf w g A l := fun i b hi => by
  have hb := h.bs
  obtain ⟨p, o, e, hc⟩ := hb i b hi
  have hl : 0 < l.length := by
    rcases Nat.eq_zero_or_pos l.length with h0 | h0
    · rw [List.eq_nil_of_length_eq_zero h0] at hi; simp at hi
    · exact h0
  obtain ⟨g', cap', hv, h1, _⟩ := h.form hl
  injection hv with hv
  rw [e] at hv
  injection hv with hv
  injection hv with hv _ _
  exact ⟨p, o, e, by omega, hc⟩

/-- a row of slices of bytes, none of them in block g -/
def Ls (w : World) (g : Nat) (A : Option Addr) (LL : List (List UInt8)) : Prop :=
  ∀ i l, LL[i]? = some l → ∃ p o, A = some ⟨p, o, none⟩ ∧ p ≠ g ∧ ∃ B c, w.cell? ⟨p, o + i, none⟩ = some (.slice B l.length c) ∧ Bsf w g B l
theorem Ls.tch {w w' : World} {g : Nat} {A : Option Addr} {LL : List (List UInt8)} (h : Ls w g A LL) (t : Tch g w w') : Ls w' g A LL := fun i l hi => by
  obtain ⟨p, o, e, hp, B, c, hc, hb⟩ := h i l hi
  refine ⟨p, o, e, hp, B, c, ?_, hb.tch t⟩
  rw [World.cell?_of_block (t.block p (cell_lt hc) (by intro e2; injection e2 with e2; exact hp e2))]
  exact hc
/-- a row of its own of one list, of two, of three -/
theorem ls_nil (w : World) (g : Nat) (A : Option Addr) : Ls w g A [] := fun i l h => by simp at h
theorem ls_one {w : World} {g : Nat} {B : Option Addr} {l : List UInt8} (c : Nat) (T : TypeId) (hB : Bsf w g B l) (hg : g < w.heap.size) : Ls (w.alloc (.cells #[.slice B l.length c] T)) g (some ⟨w.heap.size, 0, none⟩) [l] := fun i x hi => by
  match i, hi with
  | 0, hi =>
    simp at hi; subst hi
    exact ⟨_, 0, rfl, by omega, B, c, box_cell w _ T 0 _ rfl, hB.below (below_alloc _ _)⟩
theorem ls_two {w : World} {g : Nat} {B B' : Option Addr} {l l' : List UInt8} (c c' : Nat) (T : TypeId) (hB : Bsf w g B l) (hB' : Bsf w g B' l') (hg : g < w.heap.size) : Ls (w.alloc (.cells #[.slice B l.length c, .slice B' l'.length c'] T)) g (some ⟨w.heap.size, 0, none⟩) [l, l'] := fun i x hi => by
  match i, hi with
  | 0, hi =>
    simp at hi; subst hi
    exact ⟨_, 0, rfl, by omega, B, c, box_cell w _ T 0 _ rfl, hB.below (below_alloc _ _)⟩
  | 1, hi =>
    simp at hi; subst hi
    exact ⟨_, 0, rfl, by omega, B', c', box_cell w _ T 1 _ rfl, hB'.below (below_alloc _ _)⟩
theorem ls_three {w : World} {g : Nat} {B B' B'' : Option Addr} {l l' l'' : List UInt8} (c c' c'' : Nat) (T : TypeId) (hB : Bsf w g B l) (hB' : Bsf w g B' l') (hB'' : Bsf w g B'' l'') (hg : g < w.heap.size) :
    Ls (w.alloc (.cells #[.slice B l.length c, .slice B' l'.length c', .slice B'' l''.length c''] T)) g (some ⟨w.heap.size, 0, none⟩) [l, l', l''] := fun i x hi => by
  match i, hi with
  | 0, hi =>
    simp at hi; subst hi
    exact ⟨_, 0, rfl, by omega, B, c, box_cell w _ T 0 _ rfl, hB.below (below_alloc _ _)⟩
  | 1, hi =>
    simp at hi; subst hi
    exact ⟨_, 0, rfl, by omega, B', c', box_cell w _ T 1 _ rfl, hB'.below (below_alloc _ _)⟩
  | 2, hi =>
    simp at hi; subst hi
    exact ⟨_, 0, rfl, by omega, B'', c'', box_cell w _ T 2 _ rfl, hB''.below (below_alloc _ _)⟩
theorem bsf_nil (w : World) (g : Nat) (A : Option Addr) : Bsf w g A [] := fun i b h => by simp at h

set_option maxRecDepth 100000 in
set_option maxHeartbeats 1600000 in
theorem crcSum_any (g : Nat) (A : Option Addr) (c : Nat) (LL : List (List UInt8)) (w : World) (hT : TabF w g ∨ TabM w g) (hL : Ls w g A LL) (hl : LL.length ≤ 1000000) (hl2 : ∀ l ∈ LL, l.length ≤ 1000000) :
    Calls Try.prog 32 #[.pointer (some ⟨g, 0, none⟩), .slice A LL.length c] w fun e w' => ∃ x : Nat, Hid (x = crcL LL.flatten) ∧ e = .returned (.int .u32 x) ∧ TabM w' g ∧ Tch g w w' := by
  have Hl2 := Lib.hid hl2
  have hmf : ∀ (fn : Fn) (first cap : Array Value) (w : World), (Instr.makeFunc fn first cap).run Try.prog w = .ok (.func fn first cap) w := fun _ _ _ _ => rfl
  clear hl2
  go_enter Try.func32, Try.ntmps32
  go_wp2_with fail
  refine (doFill_any g w hT).mono ?_
  rintro e w1 ⟨rfl, hM, hTc⟩
  have L1 := hL.tch hTc
  clear hT hL hmf
  go_wp2_with fail
  go_loop [5, 18] (fun a i => ∃ x k : Nat, k ≤ LL.length ∧ a = .int .u32 x ∧ i = .int .i64 k ∧ Hid (x = crcF 4294967295 (LL.take k).flatten)) (fun _ i => LL.length - (intOf i).toNat)
  case atStart => exact ⟨4294967295, 0, Nat.zero_le _, rfl, rfl, Lib.hid rfl⟩
  case round =>
    obtain ⟨x, k, hk, rfl, rfl, HX⟩ := hrel
    by_cases hlt : k < LL.length
    · obtain ⟨p, o, rfl, -, B, cb, hc, hBf⟩ := L1 k LL[k] (List.getElem?_eq_getElem hlt)
      have hB := hBf.bs
      clear hBf
      have hlen := Hl2.out LL[k] (List.getElem_mem hlt)
      have hst : (LL.take (k + 1)).flatten = (LL.take k).flatten ++ LL[k] := by rw [List.take_succ_eq_append_getElem hlt, List.flatten_append]; simp
      obtain ⟨l, hle⟩ : ∃ l, l = LL[k] := ⟨_, rfl⟩
      rw [← hle] at hc hB hlen hst
      have Hst := Lib.hid hst
      clear hle hst
      go_wp2_with fail
      go_loop [5, 24] (fun a i => ∃ y j : Nat, j ≤ l.length ∧ a = .int .u32 y ∧ i = .int .i64 j ∧ Hid (y = crcF x (l.take j))) (fun _ i => l.length - (intOf i).toNat)
      case atStart => exact ⟨x, 0, Nat.zero_le _, rfl, rfl, Lib.hid rfl⟩
      case round =>
        obtain ⟨y, j, hj, rfl, rfl, HY⟩ := hrel
        have hx32 : x < 4294967296 := by rw [HX.out]; exact crcF_lt _ (by decide)
        by_cases hjl : j < l.length
        · obtain ⟨p', o', rfl, hcb⟩ := hB j l[j] (List.getElem?_eq_getElem hjl)
          have hy32 : y < 4294967296 := by rw [HY.out]; exact crcF_lt _ hx32
          have hsn := crcF_snoc l j hjl x
          rw [← HY.out] at hsn
          obtain ⟨b, hb⟩ : ∃ b, b = l[j] := ⟨_, rfl⟩
          rw [← hb] at hcb hsn
          have hb8 := b.toNat_lt
          unfold bv at hcb
          rw [crcB_table _ _ hb8] at hsn
          obtain ⟨bn, hbn⟩ : ∃ bn, bn = b.toNat := ⟨_, rfl⟩
          rw [← hbn] at hcb hsn hb8
          obtain ⟨y8, hy8⟩ : ∃ y8, y8 = y % 256 := ⟨_, rfl⟩
          obtain ⟨yh, hyh⟩ : ∃ yh, yh = y / 256 := ⟨_, rfl⟩
          obtain ⟨ix, hix⟩ : ∃ ix, ix = (y ^^^ bn) % 256 := ⟨_, rfl⟩
          have hix2 : ix = y8 ^^^ bn := by
            rw [hix, hy8, show (256 : Nat) = 2 ^ 8 from rfl, Nat.xor_mod_two_pow, Nat.mod_eq_of_lt (show bn < 2 ^ 8 from hb8)]
          have hixl : ix < 256 := by rw [hix]; exact Nat.mod_lt _ (by decide)
          have ht := hM.entry ix hixl
          have htl := csteps_lt 8 (show ix < 4294967296 by omega)
          rw [← hix, ← hyh] at hsn
          obtain ⟨t, htt⟩ : ∃ t, t = csteps 8 ix := ⟨_, rfl⟩
          rw [← htt] at ht htl hsn
          have e1 : IntKind.u8.wrap (y : Int) = (y8 : Int) := by rw [IntKind.wrap_u8]; omega
          have e2 : bits .xor .u8 (y8 : Int) (bn : Int) = (ix : Int) := by rw [hix2]; exact xor_u8 _ _ (by omega) hb8
          have e3 : (y : Int) / 256 = (yh : Int) := by omega
          obtain ⟨z, hz⟩ : ∃ z, z = t ^^^ yh := ⟨_, rfl⟩
          have e4 : bits .xor .u32 (t : Int) (yh : Int) = (z : Int) := by rw [hz]; exact xor_u32 _ _ htl (by omega)
          rw [← hz] at hsn
          have i0 : 0 ≤ (ix : Int) := by omega
          have i1 : (ix : Int) < 256 := by omega
          have i2 : (ix : Int).toNat = ix := by omega
          have i3 : ix ≤ 255 := by omega
          have Hsn := Lib.hid hsn
          clear hsn hy8 hyh hix hix2 htt hz hb hbn htl hy32 hb8 hx32
          go_wp2_with fail
          go_round
          case rel => exact ⟨z, j + 1, by omega, rfl, by go_num, Lib.hid Hsn.out.symm⟩
          case measure => simp [intOf]; omega
        · obtain rfl : j = l.length := by omega
          rw [List.take_length] at HY
          clear hx32
          go_wp2_with fail
          go_round
          case rel => exact ⟨y, k + 1, by omega, rfl, by go_num, Lib.hid (by rw [HY.out, HX.out, Hst.out, crcF_append])⟩
          case measure => simp [intOf]; omega
    · obtain rfl : k = LL.length := by omega
      rw [List.take_length] at HX
      have hx32 : x < 4294967296 := by rw [HX.out]; exact crcF_lt _ (by decide)
      obtain ⟨z, hz⟩ : ∃ z, z = 4294967295 - x := ⟨_, rfl⟩
      have e1 : bits .xor .u32 IntKind.u32.max (x : Int) = (z : Int) := by rw [hz]; exact not_u32 x hx32
      have HZ : Hid (z = crcL LL.flatten) := Lib.hid (by rw [hz, HX.out]; rfl)
      clear hx32 hz
      go_wp2_with fail
      go_ret
      exact ⟨z, HZ, rfl, hM, hTc⟩

set_option maxRecDepth 100000 in
theorem refNext_any (c : Nat) (b : Nat) (w : World) (hc : c < 4294967296) (hb : b < 256) :
    Calls Try.prog 52 #[.int .u32 c, .int .u8 b] w fun e w' => ∃ x : Nat, Hid (x = crcB c b) ∧ e = .returned (.int .u32 x) ∧ w = w' := by
  obtain ⟨c1, hc1⟩ : ∃ c1, c1 = c ^^^ b := ⟨_, rfl⟩
  have hlt : c1 < 4294967296 := by rw [hc1]; exact Nat.xor_lt_two_pow (n := 32) hc (by omega)
  have e0 : bits .xor .u32 (c : Int) (b : Int) = (c1 : Int) := by rw [hc1]; exact xor_u32 c b hc (by omega)
  have e9 : IntKind.u32.wrap (b : Int) = (b : Int) := wrap_32 b (by omega)
  have HB : Hid (csteps 8 c1 = crcB c b) := Lib.hid (by rw [hc1]; rfl)
  have HC := Lib.hid hlt
  clear hc1 hlt hc hb
  go_enter Try.func52, Try.ntmps52
  go_wp2_with fail
  clear e0 e9
  go_loop [0, 5] (fun a i => ∃ x k : Nat, k ≤ 8 ∧ a = .int .u32 x ∧ i = .int .i64 k ∧ Hid (x = csteps k c1)) (fun _ i => 8 - (intOf i).toNat)
  case atStart => exact ⟨c1, 0, by omega, rfl, rfl, Lib.hid rfl⟩
  case round =>
    obtain ⟨x, k, hk, rfl, rfl, HX⟩ := hrel
    rcases Nat.lt_or_ge k 8 with hlt | hge
    · have hx : x < 4294967296 := by rw [HX.out]; exact csteps_lt k HC.out
      have hs := csteps_succ k c1
      rw [← HX.out] at hs
      unfold cstep at hs
      obtain ⟨d, hd⟩ : ∃ d, d = x % 2 := ⟨_, rfl⟩
      obtain ⟨h, hh⟩ : ∃ h, h = x / 2 := ⟨_, rfl⟩
      have e1 : (x : Int) % 2 = (d : Int) := by omega
      have e1' : (x : Int).tmod 2 = (d : Int) := by rw [Int.tmod_eq_emod_of_nonneg (by omega)]; omega
      have e2 : (x : Int) / 2 = (h : Int) := by omega
      have e2' : (x : Int).tdiv 2 = (h : Int) := by rw [Int.tdiv_eq_ediv_of_nonneg (by omega)]; omega
      have e5 : IntKind.u32.wrap (h : Int) = (h : Int) := wrap_32 h (by omega)
      rw [← hd, ← hh] at hs
      by_cases ho : d = 1
      · rw [if_pos ho] at hs
        have t1 : ((d : Int) == 1) = true := by simp; omega
        have t2 : (d == 1) = true := by simp; omega
        obtain ⟨y, hy⟩ : ∃ y, y = h ^^^ 2197175160 := ⟨_, rfl⟩
        have e3 : bits .xor .u32 (h : Int) 2197175160 = (y : Int) := by rw [hy]; exact xor_u32 h 2197175160 (by omega) (by decide)
        rw [← hy] at hs
        have HS := Lib.hid hs
        clear hs hd hh ho hy hx
        go_wp2_with fail
        go_round
        case rel => exact ⟨y, k + 1, by omega, rfl, by go_num, Lib.hid HS.out.symm⟩
        case measure => simp [intOf]; omega
      · rw [if_neg ho] at hs
        have t1 : ((d : Int) == 1) = false := by simp; omega
        have t2 : (d == 1) = false := by simp; omega
        have HS := Lib.hid hs
        clear hs hd hh ho hx
        go_wp2_with fail
        go_round
        case rel => exact ⟨h, k + 1, by omega, rfl, by go_num, Lib.hid HS.out.symm⟩
        case measure => simp [intOf]; omega
    · obtain rfl : k = 8 := by omega
      go_wp2_with fail
      go_ret
      exact ⟨x, Lib.hid (by rw [HX.out, HB.out]), rfl, rfl⟩

set_option maxRecDepth 100000 in
theorem refSum_any (A : Option Addr) (c : Nat) (l : List UInt8) (w : World) (hA : Bs w A l) (hl : l.length ≤ 1000000) :
    Calls Try.prog 34 #[.slice A l.length c] w fun e w' => ∃ x : Nat, Hid (x = crcL l) ∧ e = .returned (.int .u32 x) ∧ w = w' := by
  go_enter Try.func34, Try.ntmps34
  go_wp2_with fail
  go_loop [3, 4] (fun a i => ∃ x k : Nat, k ≤ l.length ∧ a = .int .u32 x ∧ i = .int .i64 k ∧ Hid (x = crcF 4294967295 (l.take k))) (fun _ i => l.length - (intOf i).toNat)
  case atStart => exact ⟨4294967295, 0, Nat.zero_le _, rfl, rfl, Lib.hid rfl⟩
  case round =>
    obtain ⟨x, k, hk, rfl, rfl, HX⟩ := hrel
    have hx32 : x < 4294967296 := by rw [HX.out]; exact crcF_lt _ (by decide)
    have Hx32 := Lib.hid hx32
    by_cases hlt : k < l.length
    · obtain ⟨p, o, rfl, hc⟩ := hA k l[k] (List.getElem?_eq_getElem hlt)
      have hsn := crcF_snoc l k hlt 4294967295
      rw [← HX.out] at hsn
      obtain ⟨b, hb⟩ : ∃ b, b = l[k] := ⟨_, rfl⟩
      rw [← hb] at hc hsn
      have hb8 := b.toNat_lt
      unfold bv at hc
      obtain ⟨bn, hbn⟩ : ∃ bn, bn = b.toNat := ⟨_, rfl⟩
      rw [← hbn] at hc hsn hb8
      have Hsn := Lib.hid hsn
      have Hb8 := Lib.hid hb8
      clear hsn hb hbn hb8 hx32
      go_wp2_with fail
      refine (refNext_any x bn _ Hx32.out Hb8.out).mono ?_
      rintro e w2 ⟨y, HY, rfl, rfl⟩
      go_wp2_with fail
      go_round
      case rel => exact ⟨y, k + 1, by omega, rfl, by go_num, Lib.hid (by rw [HY.out, Hsn.out])⟩
      case measure => simp [intOf]; omega
    · obtain rfl : k = l.length := by omega
      rw [List.take_length] at HX
      obtain ⟨z, hz⟩ : ∃ z, z = 4294967295 - x := ⟨_, rfl⟩
      have e1 : bits .xor .u32 IntKind.u32.max (x : Int) = (z : Int) := by rw [hz]; exact not_u32 x hx32
      have HZ : Hid (z = crcL l) := Lib.hid (by rw [hz, HX.out]; rfl)
      clear hx32 hz
      go_wp2_with fail
      go_ret
      exact ⟨z, HZ, rfl, rfl⟩

end Go.Proofs.Ytpedobpbpomkaaa
