/- bytes.Cut at one byte that is nought; the document's own functions of layer 9. -/
import Derived.Test.YtipbkfjmblkolaaApp
import Derived.Test.YtipbkfjmblkolaaMathStuff
import Derived.Outline
import Derived.Deep.DeepCutAuto
import Derived.Lib.BytesEntry
import Derived.Lib.Bytealg
import Derived.Laws.StandIn
namespace Go.Proofs.Ytipbkfjmblkolaa
open Go.RowKit

theorem ixb_miss {l : List UInt8} (h : NoZ l) : Lib.indexByte l 0 = -1 := by
  induction l with
  | nil => rfl
  | cons b l ih =>
    unfold Lib.indexByte
    rw [ih fun x hx => h x (List.mem_cons_of_mem _ hx)]
    have hb : (b == 0) = false := beq_eq_false_iff_ne.2 (h b List.mem_cons_self)
    simp [hb]
theorem ixb_hit {a : List UInt8} (h : NoZ a) (r : List UInt8) : Lib.indexByte (a ++ 0 :: r) 0 = a.length := by
  induction a with
  | nil => rfl
  | cons b a ih =>
    show Lib.indexByte (b :: (a ++ 0 :: r)) 0 = _
    unfold Lib.indexByte
    rw [ih fun x hx => h x (List.mem_cons_of_mem _ hx)]
    have hb : (b == 0) = false := beq_eq_false_iff_ne.2 (h b List.mem_cons_self)
    rw [if_neg (by simp [hb]), if_neg (by simp), List.length_cons]
    rfl
theorem bytesOf_map (l : List UInt8) : Lib.bytesOf (l.map fun b => (b.toNat : Int)) = l := by
  unfold Lib.bytesOf
  rw [List.map_map]
  conv => rhs; rw [← List.map_id l]
  apply List.map_congr_left
  intro b _
  simp

theorem ixb_run {A : Option Addr} {l : List UInt8} (c : Nat) (w : World) (hb : Bs w A l) :
    (callFunc 51 #[.slice A l.length c, .int .u8 0]).run Try.prog w = .ok (.value (.int .i64 (Lib.indexByte l 0))) w := by
  rw [run_callFunc_indexByte Try.func51 (by kernel_rfl) (by kernel_rfl) (by kernel_rfl) (by kernel_rfl)]
  have key : (Extern.BytealgIndexByte.indexByte #[.slice A l.length c, .int .u8 0]).run Try.prog w = .ok (.int .i64 (Lib.indexByte l 0)) w := by
    rcases Nat.eq_zero_or_pos l.length with h0 | h0
    · have : l = [] := List.eq_nil_of_length_eq_zero h0
      subst this
      rcases A with _ | a
      · exact Lib.run_indexByteNil (P := Try.prog) (w := w) 0 c 0
      · exact Lib.run_indexByteNil (P := Try.prog) (w := w) 0 c 0
    · obtain ⟨p, o, rfl, _, hc⟩ := hb.at_ h0
      have h := Lib.run_indexByteSlice (P := Try.prog) (w := w) p o l.length c (l.map fun b => (b.toNat : Int)) (by simp) (fun i hi => by
        rw [hc i hi]
        unfold bv
        rw [List.getD_eq_getElem?_getD, List.getElem?_map, List.getElem?_eq_getElem hi]; rfl) 0
      rw [bytesOf_map] at h
      exact h
  rw [key]; rfl

set_option maxRecDepth 100000 in
theorem index_any {A : Option Addr} {l : List UInt8} (c q cs : Nat) (w : World) (hb : Bs w A l) (hs : w.cell? ⟨q, 0, none⟩ = some (.int .u8 0)) :
    Calls Try.prog 36 #[.slice A l.length c, .slice (some ⟨q, 0, none⟩) 1 cs] w fun e w' => e = .returned (.int .i64 (Lib.indexByte l 0)) ∧ w = w' := by
  have hx := ixb_run c w hb
  generalize Lib.indexByte l 0 = z at *
  go_enter Try.func36, Try.ntmps36
  go_wp2
  go_ret
  exact ⟨rfl, rfl⟩

set_option maxRecDepth 100000 in
theorem cut_miss {A : Option Addr} {l : List UInt8} (c q cs : Nat) (w : World) (hb : Bs w A l) (hs : w.cell? ⟨q, 0, none⟩ = some (.int .u8 0)) (hz : NoZ l) :
    Calls Try.prog 28 #[.slice A l.length c, .slice (some ⟨q, 0, none⟩) 1 cs] w fun e w' => e = .returned (.tuple #[.slice A l.length c, .slice none 0 0, .bool false]) ∧ w = w' := by
  have hix := index_any c q cs w hb hs
  rw [ixb_miss hz] at hix
  clear hz
  go_enter Try.func28, Try.ntmps28
  go_wp2_with fail
  refine hix.mono ?_
  rintro e w1 ⟨rfl, rfl⟩
  clear hix
  go_wp2_with fail
  go_ret3
  exact ⟨rfl, rfl⟩

/-- what is left behind a place -/
theorem Bs.tail {w : World} {A : Option Addr} {l : List UInt8} (hb : Bs w A l) (k : Nat) : Bs w (A.map (·.add k)) (l.drop k) := fun i b hi => by
  rw [List.getElem?_drop] at hi
  obtain ⟨p, o, rfl, hc⟩ := hb _ b hi
  refine ⟨p, o + k, ?_, by rw [Nat.add_assoc]; exact hc⟩
  show some (Addr.add ⟨p, o, none⟩ k) = _
  unfold Addr.add
  split
  · rename_i h0; subst h0; rfl
  · rfl

set_option maxRecDepth 100000 in
set_option maxHeartbeats 1000000 in
theorem cut_hit {A : Option Addr} {l : List UInt8} (a r : List UInt8) (c q cs : Nat) (w : World) (hb : Bs w A l) (hs : w.cell? ⟨q, 0, none⟩ = some (.int .u8 0)) (hl : l = a ++ 0 :: r) (hz : NoZ a) (hc : l.length ≤ c) (hm : l.length ≤ 1000000) :
    Calls Try.prog 28 #[.slice A l.length c, .slice (some ⟨q, 0, none⟩) 1 cs] w fun e w' => ∃ A2 n, e = .returned (.tuple #[.slice A a.length c, .slice A2 r.length (c - (a.length + 1)), .bool true]) ∧ (∀ w2, Bs w2 A l → Bs w2 A2 r) ∧ w' = w.drewN n := by
  have hix := index_any c q cs w hb hs
  rw [hl, ixb_hit hz r, ← hl] at hix
  have hlen : l.length = a.length + 1 + r.length := by rw [hl]; simp; omega
  have htail : ∀ w2, Bs w2 A l → Bs w2 (A.map (·.add (a.length + 1))) r := fun w2 h2 => by
    have htail := h2.tail (a.length + 1)
    rwa [hl, show a ++ 0 :: r = (a ++ [0]) ++ r by simp, List.drop_append_of_le_length (by simp), List.drop_of_length_le (by simp), List.nil_append] at htail
  have Htail := Lib.hid htail
  clear htail
  obtain ⟨p, o, rfl, _⟩ := hb a.length 0 (by rw [hl]; simp)
  have HL := Lib.hid hlen
  have HC := Lib.hid hc
  have k1 : (a.length : Int) ≤ c := by omega
  have k2 : (a.length : Int) + 1 ≤ c := by omega
  have k3 : (a.length : Int) ≤ l.length := by omega
  have k4 : (a.length : Int) + 1 ≤ l.length := by omega
  have k5 : (a.length : Int) ≤ 1000000 := by omega
  have n1 : a.length ≤ c := by omega
  have n2 : a.length + 1 ≤ c := by omega
  have n3 : a.length + 1 ≤ l.length := by omega
  have n4 : ((a.length : Int) + 1).toNat = a.length + 1 := by omega
  have n5 : l.length - (a.length + 1) = r.length := by omega
  have e1 : IntKind.i64.wrap ((a.length : Int) + 1) = (a.length : Int) + 1 := by rw [IntKind.wrap_i64]; omega
  clear hlen hl hz hc hm
  by_cases hcc : c = a.length + 1
  · have hr0 : r = [] := by
      have := HL.out
      have := HC.out
      exact List.eq_nil_of_length_eq_zero (by omega)
    have Hr0 := Lib.hid hr0
    clear hr0
    subst hcc
    go_enter Try.func28, Try.ntmps28
    go_wp2_with fail
    refine hix.mono ?_
    rintro e w1 ⟨rfl, rfl⟩
    clear hix
    go_wp2_with fail
    go_quiet (fail)
    go_wp2_with fail
    go_ret3
    refine ⟨some ⟨p, o, none⟩, nq, ?_, fun w2 _ => by rw [Hr0.out]; exact Bs.nil _ _, rfl⟩
    rw [Nat.sub_self]; rfl
  · go_enter Try.func28, Try.ntmps28
    go_wp2_with fail
    refine hix.mono ?_
    rintro e w1 ⟨rfl, rfl⟩
    clear hix
    go_wp2_with fail
    go_quiet (fail)
    go_wp2_with fail
    go_ret3
    have e2 : (some (⟨p, o, none⟩ : Addr)).map (·.add (a.length + 1)) = some ⟨p, o + (a.length + 1), none⟩ := by
      show some (Addr.add ⟨p, o, none⟩ (a.length + 1)) = _
      unfold Addr.add
      rw [if_neg (by omega)]
    have htail := Htail.out
    rw [e2] at htail
    exact ⟨_, _, rfl, htail, rfl⟩

end Go.Proofs.Ytipbkfjmblkolaa
