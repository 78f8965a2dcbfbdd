/- Joined: BitE. -/
import Derived.Test.YtnjcdihgaidlbaaGreatDoorQ8
import Derived.Test.YtnjcdihgaidlbaaGreatDoorQ5
import Derived.Laws.ShiftsVar
set_option linter.unusedSimpArgs false
set_option linter.unusedVariables false
namespace Go.Proofs.YtnjcdihgaidlbaaGreatDoor
open Go.RowKit
theorem put_M (A : Option Addr) (c : Nat) (L : List Bool) (V d : Int) (M : List Bool) (w : World) (hM : M = L ++ valB V.toNat d.toNat) (hb : Bs w A (pack L)) (hV : 0 ≤ V ∧ V < 18446744073709551616) (hd : 0 ≤ d ∧ d ≤ 64) (hL : L.length ≤ 137438953472) :
  Calls Tryz.prog 104 #[.agg #[.slice A (pack L).length c, .int .i64 L.length], .int .u64 V, .int .i64 d] w fun e w' =>
   ∃ A' c', e = .returned (.tuple #[.agg #[.slice A' (pack M).length c', .int .i64 M.length], .int .u16 0]) ∧ OwnB w' w.heap.size (.slice A' (pack M).length c') (pack M) ∧ Below w.heap.size w w' := by
 obtain ⟨v, rfl⟩ := Int.eq_ofNat_of_zero_le hV.1
 obtain ⟨t, rfl⟩ := Int.eq_ofNat_of_zero_le hd.1
 simp only [Int.toNat_natCast] at hM
 have h := put_ok A c (pack L) L.length v t w hb (by have := pack_le L hL; omega) (by omega) (by omega) (sound_pack L)
 have hl : M.length = L.length + t := by rw [hM, List.length_append, valB_length]
 rw [bits_pack, ← hM, ← hl] at h
 exact h
theorem put_E (A : Option Addr) (c : Nat) (L : List Bool) (V d : Int) (w : World) (hb : Bs w A (pack L)) (hV : 0 ≤ V ∧ V < 18446744073709551616) (hd : 0 ≤ d ∧ d ≤ 64) (hL : L.length ≤ 137438953472) :
  Calls Tryz.prog 104 #[.agg #[.slice A (pack L).length c, .int .i64 L.length], .int .u64 V, .int .i64 d] w fun e w' =>
   ∃ M A' c', Hid (M = L ++ valB V.toNat d.toNat) ∧ M.length ≤ L.length + 64 ∧ e = .returned (.tuple #[.agg #[.slice A' (pack M).length c', .int .i64 M.length], .int .u16 0]) ∧ Bs w' A' (pack M) ∧ Below w.heap.size w w' :=
 (put_M A c L V d _ w rfl hb hV hd hL).mono fun e w' ⟨A', c', he, ho, hbel⟩ => ⟨_, A', c', rfl, by rw [List.length_append, valB_length]; omega, he, ho.bs, hbel⟩
theorem put_O (A : Option Addr) (c : Nat) (L : List Bool) (V d : Int) (w : World) (hb : Bs w A (pack L)) (hV : 0 ≤ V ∧ V < 18446744073709551616) (hd : 0 ≤ d ∧ d ≤ 64) (hL : L.length ≤ 137438953472) :
  Calls Tryz.prog 104 #[.agg #[.slice A (pack L).length c, .int .i64 L.length], .int .u64 V, .int .i64 d] w fun e w' =>
   ∃ M A' c', Hid (M = L ++ valB V.toNat d.toNat) ∧ M.length ≤ L.length + 64 ∧ e = .returned (.tuple #[.agg #[.slice A' (pack M).length c', .int .i64 M.length], .int .u16 0]) ∧ OwnB w' w.heap.size (.slice A' (pack M).length c') (pack M) ∧ Below w.heap.size w w' :=
 (put_M A c L V d _ w rfl hb hV hd hL).mono fun e w' ⟨A', c', he, ho, hbel⟩ => ⟨_, A', c', rfl, by rw [List.length_append, valB_length]; omega, he, ho, hbel⟩
end Go.Proofs.YtnjcdihgaidlbaaGreatDoor
