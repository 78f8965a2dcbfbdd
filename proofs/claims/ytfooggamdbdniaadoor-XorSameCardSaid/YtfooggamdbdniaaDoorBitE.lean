/- Contracts of package bit on bits that are known to be sound: the bytes of a list of bits. -/
import Derived.Test.YtfooggamdbdniaaDoorOwn
import Derived.Test.YtfooggamdbdniaaDoorBit5
import Derived.Test.YtfooggamdbdniaaDoorBit3
namespace Go.Proofs.YtfooggamdbdniaaDoor
open Go.RowKit

theorem put_M (A : Option Addr) (c : Nat) (L : List Bool) (V d : Int) (M : List Bool) (w : World) (hM : M = L ++ valB V.toNat d.toNat) (hb : Bs w A (pack L)) (hV : 0 ≤ V ∧ V < 18446744073709551616) (hd : 0 ≤ d ∧ d ≤ 64) (hL : L.length ≤ 137438953472) :
    Calls Tryd.prog 41 #[.agg #[.slice A (pack L).length c, .int .i64 L.length], .int .u64 V, .int .i64 d] w fun e w' =>
      ∃ A' c', e = .returned (.tuple #[.agg #[.slice A' (pack M).length c', .int .i64 M.length], .int .u16 0]) ∧ OwnB w' w.heap.size (.slice A' (pack M).length c') (pack M) ∧ Below w.heap.size w w' := by
  obtain ⟨v, rfl⟩ := Int.eq_ofNat_of_zero_le hV.1
  obtain ⟨t, rfl⟩ := Int.eq_ofNat_of_zero_le hd.1
  simp only [Int.toNat_natCast] at hM
  have h := put_ok A c (pack L) L.length v t w hb (by have := pack_le L hL; omega) (by omega) (by omega) (sound_pack L)
  have hl : M.length = L.length + t := by rw [hM, List.length_append, valB_length]
  rw [bits_pack, ← hM, ← hl] at h
  exact h

theorem get_M (A : Option Addr) (c : Nat) (M : List Bool) (a d : Int) (w : World) (hb : Bs w A (pack M)) (ha : 0 ≤ a) (hd : 0 ≤ d ∧ d ≤ 64) (had : a + d ≤ M.length) (hL : M.length ≤ 137438953472) :
    Calls Tryd.prog 37 #[.agg #[.slice A (pack M).length c, .int .i64 M.length], .int .i64 a, .int .i64 d] w fun e w' =>
      e = .returned (.tuple #[.int .u64 (numB ((M.drop a.toNat).take d.toNat)), .int .u16 0]) ∧ Below w.heap.size w w' := by
  obtain ⟨x, rfl⟩ := Int.eq_ofNat_of_zero_le ha
  obtain ⟨t, rfl⟩ := Int.eq_ofNat_of_zero_le hd.1
  have h := get_ok A c (pack M) M.length x t w hb (by have := pack_le M hL; omega) (sound_pack M) (by omega) (by omega)
  rw [cutl_pack _ _ _ (by omega)] at h
  exact h

theorem soundM (A : Option Addr) (c : Nat) (M : List Bool) (w : World) (hb : Bs w A (pack M)) (hL : M.length ≤ 137438953472) :
    Calls Tryd.prog 20 #[.agg #[.slice A (pack M).length c, .int .i64 M.length]] w fun e w' => e = .returned (.bool true) ∧ Below w.heap.size w w' := by
  have h := sound_any A c (pack M) M.length w hb (by omega) (by have := pack_le M hL; unfold maxLen; omega)
  rw [sound_pack] at h
  exact h

theorem put_E (A : Option Addr) (c : Nat) (L : List Bool) (V d : Int) (w : World) (hb : Bs w A (pack L)) (hV : 0 ≤ V ∧ V < 18446744073709551616) (hd : 0 ≤ d ∧ d ≤ 64) (hL : L.length ≤ 137438953472) :
    Calls Tryd.prog 41 #[.agg #[.slice A (pack L).length c, .int .i64 L.length], .int .u64 V, .int .i64 d] w fun e w' =>
      ∃ M A' c', Hid (M = L ++ valB V.toNat d.toNat) ∧ M.length ≤ L.length + 64 ∧ e = .returned (.tuple #[.agg #[.slice A' (pack M).length c', .int .i64 M.length], .int .u16 0]) ∧ Bs w' A' (pack M) ∧ Below w.heap.size w w' :=
  (put_M A c L V d _ w rfl hb hV hd hL).mono fun e w' ⟨A', c', he, ho, hbel⟩ => ⟨_, A', c', rfl, by rw [List.length_append, valB_length]; omega, he, ho.bs, hbel⟩

theorem put_O (A : Option Addr) (c : Nat) (L : List Bool) (V d : Int) (w : World) (hb : Bs w A (pack L)) (hV : 0 ≤ V ∧ V < 18446744073709551616) (hd : 0 ≤ d ∧ d ≤ 64) (hL : L.length ≤ 137438953472) :
    Calls Tryd.prog 41 #[.agg #[.slice A (pack L).length c, .int .i64 L.length], .int .u64 V, .int .i64 d] w fun e w' =>
      ∃ M A' c', Hid (M = L ++ valB V.toNat d.toNat) ∧ M.length ≤ L.length + 64 ∧ e = .returned (.tuple #[.agg #[.slice A' (pack M).length c', .int .i64 M.length], .int .u16 0]) ∧ OwnB w' w.heap.size (.slice A' (pack M).length c') (pack M) ∧ Below w.heap.size w w' :=
  (put_M A c L V d _ w rfl hb hV hd hL).mono fun e w' ⟨A', c', he, ho, hbel⟩ => ⟨_, A', c', rfl, by rw [List.length_append, valB_length]; omega, he, ho, hbel⟩

theorem get_E (A : Option Addr) (c : Nat) (M : List Bool) (a d : Int) (w : World) (hb : Bs w A (pack M)) (ha : 0 ≤ a) (hd : 0 ≤ d ∧ d ≤ 64) (had : a + d ≤ M.length) (hL : M.length ≤ 137438953472) :
    Calls Tryd.prog 37 #[.agg #[.slice A (pack M).length c, .int .i64 M.length], .int .i64 a, .int .i64 d] w fun e w' =>
      ∃ N : Nat, Hid (N = numB ((M.drop a.toNat).take d.toNat)) ∧ e = .returned (.tuple #[.int .u64 N, .int .u16 0]) ∧ Below w.heap.size w w' :=
  (get_M A c M a d w hb ha hd had hL).mono fun e w' ⟨he, hbel⟩ => ⟨_, rfl, he, hbel⟩

end Go.Proofs.YtfooggamdbdniaaDoor
