/- Joined: Bit2, Bit3, BitE. -/
import Derived.Test.YtmcdollkmlcpbaaGreatDoorQ7
import Derived.Laws.ShiftsVar
import Derived.Test.YtmcdollkmlcpbaaGreatDoorQ4
set_option linter.unusedSimpArgs false
set_option linter.unusedVariables false
namespace Go.Proofs.YtmcdollkmlcpbaaGreatDoor
open Go.RowKit
theorem read_end (l : List UInt8) (a t n x q d : Nat) (hx : x = a + t) (hq : (8 : Int) - (x : Int) % 8 = q) (hn : n ≤ q) (hl : x / 8 < l.length) (htd : t + n ≤ d) (hd : d ≤ 64) :
  bits .or .u64 (IntKind.u64.wrap ((numB (cutl l a t) : Int) * 2 ^ n)) (IntKind.u64.wrap (bits .and .u8 (((l[x / 8]).toNat / 2 ^ (q - n) : Nat) : Int) ((2 ^ n - 1) % 256))) = (numB (cutl l a (t + n)) : Int) := by
 have h := numB_lt (cutl l a t)
 rw [cutl_length] at h
 have h2 : numB (cutl l a t) * 2 ^ n < 2 ^ t * 2 ^ n := Nat.mul_lt_mul_of_pos_right h (Nat.two_pow_pos n)
 rw [← Nat.pow_add] at h2
 have h3 : (2 : Nat) ^ (t + n) ≤ 2 ^ 64 := Nat.pow_le_pow_right (by decide) (by omega)
 have hb := (l[x / 8]).toNat_lt
 rw [read_val _ _ _ (by omega) (by omega) (Nat.lt_of_le_of_lt (Nat.div_le_self _ _) hb), read_step l a t n x q hx (by omega) hn hl]
set_option maxHeartbeats 1000000 in
theorem read_any (A : Option Addr) (c : Nat) (l : List UInt8) (a d : Nat) (w : World) (hb : Bs w A l) (hl : l.length ≤ 1099511627776) (hd : d ≤ 64) (had : a + d ≤ 8 * l.length) :
  Calls Tryz.prog 111 #[.slice A l.length c, .int .i64 a, .int .i64 d] w fun e w' => e = .returned (.int .u64 (numB (cutl l a d))) ∧ Below w.heap.size w w' := by
 go_enter Tryz.func111, Tryz.ntmps111
 go_wp2
 go_loopw [7, 1, 2] (fun v x r wr => ∃ t : Nat, t ≤ d ∧ x = .int .i64 ((a + t : Nat) : Int) ∧ r = .int .i64 ((d - t : Nat) : Int) ∧ v = .int .u64 (numB (cutl l a t)) ∧ Below w.heap.size w wr)
  (fun _ _ r _ => (intOf r).toNat)
 case atStart => exact ⟨0, Nat.zero_le _, rfl, rfl, rfl, Below.refl _ _⟩
 case round =>
  obtain ⟨t, ht, rfl, rfl, rfl, hbel⟩ := hrel
  by_cases hlt : t < d
  ·obtain ⟨x, hx⟩ : ∃ x, x = a + t := ⟨_, rfl⟩
   obtain ⟨r, hr⟩ : ∃ r, r = d - t := ⟨_, rfl⟩
   rw [← hx, ← hr]
   have hx8 : x / 8 < l.length := by omega
   have hr0 : 0 < r := by omega
   have hxb : x ≤ 8796093022208 := by omega
   have hr64 : r ≤ 64 := by omega
   obtain ⟨p, o, rfl, hlt', hc⟩ := hb.at_ (by omega)
   have hc1 := hc _ hx8
   have hc2 : wr.cell? ⟨p, o + x / 8, none⟩ = some (bv l[x / 8]) := (hbel.cell hlt').trans hc1
   clear hc hc1
   have HX := Lib.hid hx
   have HR := Lib.hid hr
   clear hx hr
   have hix : (x : Int) / 8 < l.length := by omega
   obtain ⟨q, hq⟩ : ∃ q : Nat, (8 : Int) - (x : Int) % 8 = (q : Int) := ⟨8 - x % 8, by omega⟩
   have hq1 : 1 ≤ q ∧ q ≤ 8 := by omega
   have HQ := Lib.hid hq
   clear hq
   by_cases hm : q ≤ r
   ·have hmI : (8 : Int) - (x : Int) % 8 ≤ r := by rw [HQ.out]; omega
    go_wp2
    rw [HQ.out]
    clear hmI
    go_quiet (fail)
    go_wp2
    go_roundw
    case measure => simp [intOf]; omega
    case rel =>
     refine ⟨t + q, by have := HR.out; omega, by rw [HX.out]; go_num, by have := HR.out; congr 1; omega, ?_, below_drewN hbel _⟩
     have h := read_end l a t q x q d HX.out HQ.out (Nat.le_refl _) hx8 (by have := HR.out; omega) hd
     rw [Nat.sub_self, Nat.pow_zero, Nat.div_one] at h
     rw [h]
   ·have hmI : ¬ (8 : Int) - (x : Int) % 8 ≤ r := by rw [HQ.out]; omega
    go_wp2
    rw [HQ.out]
    clear hmI
    have hqr : (0 : Int) ≤ (q : Int) - r := by omega
    go_quiet (fail)
    go_wp2
    go_roundw
    case measure => simp [intOf]; omega
    case rel =>
     refine ⟨t + r, by have := HR.out; omega, by rw [HX.out]; go_num, by have := HR.out; congr 1; omega, ?_, below_drewN hbel _⟩
     have h := read_end l a t r x q d HX.out HQ.out (by omega) hx8 (by have := HR.out; omega) hd
     rw [nat_shr, h]
  ·obtain rfl : t = d := by omega
   go_wp2
   go_ret
   exact ⟨rfl, hbel⟩
end Go.Proofs.YtmcdollkmlcpbaaGreatDoor
namespace Go.Proofs.YtmcdollkmlcpbaaGreatDoor
open Go.RowKit
set_option maxHeartbeats 1000000 in
theorem get_err (A : Option Addr) (c : Nat) (l : List UInt8) (n at_ width : Int) (w : World) (hb : Bs w A l) (hn : -9223372036854775808 ≤ n ∧ n ≤ 9223372036854775807) (hl : l.length ≤ 1099511627776)
  (ha : -9223372036854775808 ≤ at_ ∧ at_ ≤ 9223372036854775807) (hwd : -9223372036854775808 ≤ width ∧ width ≤ 9223372036854775807) (k : Nat) (hk : (getSpec l n at_ width).2 = k) (hk0 : k ≠ 0) :
  Calls Tryz.prog 94 #[.agg #[.slice A l.length c, .int .i64 n], .int .i64 at_, .int .i64 width] w fun e w' => e = .returned (.tuple #[.int .u64 0, .int .u16 k]) ∧ Below w.heap.size w w' := by
 have hb0 := hb.below (below_alloc w (.cells #[.slice A l.length c, .int .i64 n] 33))
 have hlm : l.length ≤ maxLen := by unfold maxLen; omega
 by_cases hs : soundB l n = false
 ·obtain rfl : k = 11 := by rw [← hk]; simp [getSpec, hs]
  have HS := Lib.hid hs
  clear hs hk
  go_enter Tryz.func94, Tryz.ntmps94
  go_wp2_with (go_at_call 57; refine (sound_any A c l n _ hb0 hn hlm).mono ?_; rw [HS.out]; rintro e w1 ⟨rfl, hb1⟩; obtain ⟨c0, c1, hsz, _, _⟩ := kept1 hb1 (by simp))
  go_ret2
  exact ⟨rfl, (below_alloc _ _).trans (hb1.mono (by simp))⟩
 ·have HS := Lib.hid (show soundB l n = true by simpa using hs)
  by_cases hw : width < 0 ∨ 64 < width
  ·obtain rfl : k = 1 := by rw [← hk]; simp [getSpec, hs, hw]
   clear hs hk
   have key : ∀ b, decide (width < 0) = b → (b = false → 64 < width) →
     Calls Tryz.prog 94 #[.agg #[.slice A l.length c, .int .i64 n], .int .i64 at_, .int .i64 width] w fun e w' => e = .returned (.tuple #[.int .u64 0, .int .u16 (1 : Nat)]) ∧ Below w.heap.size w w' := by
    intro b hd h64
    cases b
    all_goals
     try have hg := h64 rfl
     clear h64 hw
     go_enter Tryz.func94, Tryz.ntmps94
     go_wp2_with (go_at_call 57; refine (sound_any A c l n _ hb0 hn hlm).mono ?_; rw [HS.out]; rintro e w1 ⟨rfl, hb1⟩; obtain ⟨c0, c1, hsz, _, _⟩ := kept1 hb1 (by simp))
     go_ret2
     exact ⟨rfl, (below_alloc _ _).trans (hb1.mono (by simp))⟩
   exact key _ rfl (by simp; omega)
  ·have he : at_ < 0 ∨ n < at_ ∨ n - at_ < width := by
    apply Classical.byContradiction; intro he
    exact hk0 (by rw [← hk]; simp [getSpec, hs, hw, he])
   obtain rfl : k = 10 := by rw [← hk]; simp [getSpec, hs, hw, he]
   obtain ⟨m, rfl, hm8, -⟩ := sound_nat (show soundB l n = true by simpa using hs)
   clear hs hk
   have hd : decide (width < 0) = false := by simp; omega
   have h64 : ¬ 64 < width := by omega
   have key : ∀ b, decide (at_ < 0) = b → (b = false → (m : Int) - width < at_) →
     Calls Tryz.prog 94 #[.agg #[.slice A l.length c, .int .i64 m], .int .i64 at_, .int .i64 width] w fun e w' => e = .returned (.tuple #[.int .u64 0, .int .u16 (10 : Nat)]) ∧ Below w.heap.size w w' := by
    intro b h1 h3
    cases b
    all_goals
     try have hg := h3 rfl
     clear h3 he hw
     go_enter Tryz.func94, Tryz.ntmps94
     go_wp2_with (go_at_call 57; refine (sound_any A c l m _ hb0 hn hlm).mono ?_; rw [HS.out]; rintro e w1 ⟨rfl, hb1⟩; obtain ⟨c0, c1, hsz, _, _⟩ := kept1 hb1 (by simp))
     go_ret2
     exact ⟨rfl, (below_alloc _ _).trans (hb1.mono (by simp))⟩
   exact key _ rfl (by simp; omega)
set_option maxHeartbeats 1000000 in
theorem get_ok (A : Option Addr) (c : Nat) (l : List UInt8) (m a d : Nat) (w : World) (hb : Bs w A l) (hl : l.length ≤ 1099511627776) (hs : soundB l m = true) (hd : d ≤ 64) (had : a + d ≤ m) :
  Calls Tryz.prog 94 #[.agg #[.slice A l.length c, .int .i64 m], .int .i64 a, .int .i64 d] w fun e w' => e = .returned (.tuple #[.int .u64 (numB (cutl l a d)), .int .u16 0]) ∧ Below w.heap.size w w' := by
 have hb0 := hb.below (below_alloc w (.cells #[.slice A l.length c, .int .i64 m] 33))
 have hlm : l.length ≤ maxLen := by unfold maxLen; omega
 obtain ⟨m', hm, hm8, -⟩ := sound_nat hs
 obtain rfl : m = m' := by omega
 have HS := Lib.hid hs
 clear hs hm
 have hd0 : decide ((d : Int) < 0) = false := by simp
 have h64 : ¬ (64 : Int) < d := by omega
 have h1 : decide ((a : Int) < 0) = false := by simp
 have h3 : ¬ (m : Int) - d < a := by omega
 go_enter Tryz.func94, Tryz.ntmps94
 go_wp2_with (first
  | (go_at_call 57; refine (sound_any A c l m _ hb0 (by omega) hlm).mono ?_; rw [HS.out]; rintro e w1 ⟨rfl, hb1⟩; obtain ⟨c0, c1, hsz, _, _⟩ := kept1 hb1 (by simp))
  | (go_at_call 111; refine (read_any A c l a d _ (hb0.below hb1) hl hd (by omega)).mono ?_; rintro e w2 ⟨rfl, hb2⟩))
 go_ret2
 exact ⟨rfl, ((below_alloc _ _).trans (hb1.mono (by simp))).trans (hb2.mono (by omega))⟩
theorem get_any (A : Option Addr) (c : Nat) (l : List UInt8) (n at_ width : Int) (w : World) (hb : Bs w A l) (hn : -9223372036854775808 ≤ n ∧ n ≤ 9223372036854775807) (hl : l.length ≤ 1099511627776)
  (ha : -9223372036854775808 ≤ at_ ∧ at_ ≤ 9223372036854775807) (hwd : -9223372036854775808 ≤ width ∧ width ≤ 9223372036854775807) :
  Calls Tryz.prog 94 #[.agg #[.slice A l.length c, .int .i64 n], .int .i64 at_, .int .i64 width] w fun e w' =>
   e = .returned (.tuple #[.int .u64 (getSpec l n at_ width).1, .int .u16 (getSpec l n at_ width).2]) ∧ Below w.heap.size w w' := by
 by_cases h0 : (getSpec l n at_ width).2 = 0
 ·unfold getSpec at h0
  split at h0
  ·simp at h0
  ·split at h0
   ·simp at h0
   ·split at h0
    ·simp at h0
    ·rename_i hs hw he
     obtain ⟨m, rfl, hm8, -⟩ := sound_nat (show soundB l n = true by simpa using hs)
     obtain ⟨a, rfl⟩ := Int.eq_ofNat_of_zero_le (show 0 ≤ at_ by omega)
     obtain ⟨d, rfl⟩ := Int.eq_ofNat_of_zero_le (show 0 ≤ width by omega)
     rw [show getSpec l m a d = (numB (cutl l a d), 0) from by simp only [getSpec, if_neg hs, if_neg hw, if_neg he]; rfl]
     exact get_ok A c l m a d w hb hl (by simpa using hs) (by omega) (by omega)
 ·have h1 : (getSpec l n at_ width).1 = 0 := by
   unfold getSpec at h0 ⊢
   split
   ·rfl
   ·split
    ·rfl
    ·split
     ·rfl
     ·rename_i hs hw he; simp [hs, hw, he] at h0
  rw [h1]
  exact get_err A c l n at_ width w hb hn hl ha hwd _ rfl h0
end Go.Proofs.YtmcdollkmlcpbaaGreatDoor
namespace Go.Proofs.YtmcdollkmlcpbaaGreatDoor
open Go.RowKit
theorem put_M (A : Option Addr) (c : Nat) (L : List Bool) (V d : Int) (M : List Bool) (w : World) (hM : M = L ++ valB V.toNat d.toNat) (hb : Bs w A (pack L)) (hV : 0 ≤ V ∧ V < 18446744073709551616) (hd : 0 ≤ d ∧ d ≤ 64) (hL : L.length ≤ 137438953472) :
  Calls Tryz.prog 91 #[.agg #[.slice A (pack L).length c, .int .i64 L.length], .int .u64 V, .int .i64 d] w fun e w' =>
   ∃ A' c', e = .returned (.tuple #[.agg #[.slice A' (pack M).length c', .int .i64 M.length], .int .u16 0]) ∧ OwnB w' w.heap.size (.slice A' (pack M).length c') (pack M) ∧ Below w.heap.size w w' := by
 obtain ⟨v, rfl⟩ := Int.eq_ofNat_of_zero_le hV.1
 obtain ⟨t, rfl⟩ := Int.eq_ofNat_of_zero_le hd.1
 simp only [Int.toNat_natCast] at hM
 have h := put_ok A c (pack L) L.length v t w hb (by have := pack_le L hL; omega) (by omega) (by omega) (sound_pack L)
 have hl : M.length = L.length + t := by rw [hM, List.length_append, valB_length]
 rw [bits_pack, ← hM, ← hl] at h
 exact h
theorem get_M (A : Option Addr) (c : Nat) (M : List Bool) (a d : Int) (w : World) (hb : Bs w A (pack M)) (ha : 0 ≤ a) (hd : 0 ≤ d ∧ d ≤ 64) (had : a + d ≤ M.length) (hL : M.length ≤ 137438953472) :
  Calls Tryz.prog 94 #[.agg #[.slice A (pack M).length c, .int .i64 M.length], .int .i64 a, .int .i64 d] w fun e w' =>
   e = .returned (.tuple #[.int .u64 (numB ((M.drop a.toNat).take d.toNat)), .int .u16 0]) ∧ Below w.heap.size w w' := by
 obtain ⟨x, rfl⟩ := Int.eq_ofNat_of_zero_le ha
 obtain ⟨t, rfl⟩ := Int.eq_ofNat_of_zero_le hd.1
 have h := get_ok A c (pack M) M.length x t w hb (by have := pack_le M hL; omega) (sound_pack M) (by omega) (by omega)
 rw [cutl_pack _ _ _ (by omega)] at h
 exact h
theorem soundM (A : Option Addr) (c : Nat) (M : List Bool) (w : World) (hb : Bs w A (pack M)) (hL : M.length ≤ 137438953472) :
  Calls Tryz.prog 57 #[.agg #[.slice A (pack M).length c, .int .i64 M.length]] w fun e w' => e = .returned (.bool true) ∧ Below w.heap.size w w' := by
 have h := sound_any A c (pack M) M.length w hb (by omega) (by have := pack_le M hL; unfold maxLen; omega)
 rw [sound_pack] at h
 exact h
theorem put_E (A : Option Addr) (c : Nat) (L : List Bool) (V d : Int) (w : World) (hb : Bs w A (pack L)) (hV : 0 ≤ V ∧ V < 18446744073709551616) (hd : 0 ≤ d ∧ d ≤ 64) (hL : L.length ≤ 137438953472) :
  Calls Tryz.prog 91 #[.agg #[.slice A (pack L).length c, .int .i64 L.length], .int .u64 V, .int .i64 d] w fun e w' =>
   ∃ M A' c', Hid (M = L ++ valB V.toNat d.toNat) ∧ M.length ≤ L.length + 64 ∧ e = .returned (.tuple #[.agg #[.slice A' (pack M).length c', .int .i64 M.length], .int .u16 0]) ∧ Bs w' A' (pack M) ∧ Below w.heap.size w w' :=
 (put_M A c L V d _ w rfl hb hV hd hL).mono fun e w' ⟨A', c', he, ho, hbel⟩ => ⟨_, A', c', rfl, by rw [List.length_append, valB_length]; omega, he, ho.bs, hbel⟩
theorem put_O (A : Option Addr) (c : Nat) (L : List Bool) (V d : Int) (w : World) (hb : Bs w A (pack L)) (hV : 0 ≤ V ∧ V < 18446744073709551616) (hd : 0 ≤ d ∧ d ≤ 64) (hL : L.length ≤ 137438953472) :
  Calls Tryz.prog 91 #[.agg #[.slice A (pack L).length c, .int .i64 L.length], .int .u64 V, .int .i64 d] w fun e w' =>
   ∃ M A' c', Hid (M = L ++ valB V.toNat d.toNat) ∧ M.length ≤ L.length + 64 ∧ e = .returned (.tuple #[.agg #[.slice A' (pack M).length c', .int .i64 M.length], .int .u16 0]) ∧ OwnB w' w.heap.size (.slice A' (pack M).length c') (pack M) ∧ Below w.heap.size w w' :=
 (put_M A c L V d _ w rfl hb hV hd hL).mono fun e w' ⟨A', c', he, ho, hbel⟩ => ⟨_, A', c', rfl, by rw [List.length_append, valB_length]; omega, he, ho, hbel⟩
theorem get_E (A : Option Addr) (c : Nat) (M : List Bool) (a d : Int) (w : World) (hb : Bs w A (pack M)) (ha : 0 ≤ a) (hd : 0 ≤ d ∧ d ≤ 64) (had : a + d ≤ M.length) (hL : M.length ≤ 137438953472) :
  Calls Tryz.prog 94 #[.agg #[.slice A (pack M).length c, .int .i64 M.length], .int .i64 a, .int .i64 d] w fun e w' =>
   ∃ N : Nat, Hid (N = numB ((M.drop a.toNat).take d.toNat)) ∧ e = .returned (.tuple #[.int .u64 N, .int .u16 0]) ∧ Below w.heap.size w w' :=
 (get_M A c M a d w hb ha hd had hL).mono fun e w' ⟨he, hbel⟩ => ⟨_, rfl, he, hbel⟩
end Go.Proofs.YtmcdollkmlcpbaaGreatDoor
