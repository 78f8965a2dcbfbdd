/- Contracts of the document's own functions of layer 1: Of. -/
import Derived.Test.YtfooggamdbdniaaDoorOwn
namespace Go.Proofs.YtfooggamdbdniaaDoor
open Go.RowKit

theorem of_step {w : World} {B g n cap k : Nat} {bs : List Bool} {L : List UInt8} {X : UInt8} (hown : OwnB w B (.slice (some ⟨g, 0, none⟩) n cap) L) (hk : k < bs.length) (hu : k < (u8s bs).length)
    (hL : L = if k % 8 = 0 then pack (bs.take k) ++ [0] else pack (bs.take k)) (hx : L[k / 8]? = some X) (hB : B ≤ g) :
    OwnB (w.setCell ⟨g, k / 8, none⟩ (.int .u8 (bits .or .u8 (X.toNat : Int) (((u8s bs)[k].toNat : Int) * 2 ^ (7 - k % 8) % 256)))).drew B (.slice (some ⟨g, 0, none⟩) n cap) (pack (bs.take (k + 1))) ∧
    Below B w (w.setCell ⟨g, k / 8, none⟩ (.int .u8 (bits .or .u8 (X.toNat : Int) (((u8s bs)[k].toNat : Int) * 2 ^ (7 - k % 8) % 256)))).drew := by
  rw [u8s_get, or_val _ _ _ (by omega), ← pack_take bs k hk L X hL hx]
  exact ⟨(hown.set _ _).drew, ((Below.refl _ _).setCell hB _).drew⟩

set_option maxHeartbeats 400000 in
theorem refOf_any (A : Option Addr) (c : Nat) (bs : List Bool) (w : World) (hb : Bs w A (u8s bs)) (hl : bs.length ≤ 17592186044416) :
    Calls Tryd.prog 26 #[.slice A bs.length c] w fun e w' => ∃ A' c', e = .returned (.agg #[.slice A' (pack bs).length c', .int .i64 bs.length]) ∧ OwnB w' w.heap.size (.slice A' (pack bs).length c') (pack bs) ∧ Below w.heap.size w w' := by
  go_enter Tryd.func26, Tryd.ntmps26
  go_wp2
  go_loopw [3, 4] (fun v i wr => ∃ k : Nat, k ≤ bs.length ∧ i = .int .i64 k ∧ OwnB wr (w.heap.size + 1) v (pack (bs.take k)) ∧ Below (w.heap.size + 1) (w.alloc (.cells #[.slice none 0 0, .int .i64 0] 29)) wr)
    (fun _ i _ => bs.length - (intOf i).toNat)
  case atStart => exact ⟨0, Nat.zero_le _, rfl, by simpa [pack, nb] using OwnB.nil _ _, Below.refl _ _⟩
  case round =>
    obtain ⟨k, hk, rfl, hown, hbel⟩ := hrel
    have hsz : w.heap.size + 1 ≤ wr.heap.size := by have := hbel.size; simpa using this
    by_cases hlt : k < bs.length
    · have hu : k < (u8s bs).length := by rw [u8s_length]; exact hlt
      obtain ⟨p, o, rfl, hpl, hc⟩ := hb.at_ (show 0 < (u8s bs).length by omega)
      have hck := hc k hu
      clear hc
      by_cases h8 : k % 8 = 0
      · have he : (((k : Int) % 8) == 0) = true := by simp; omega
        have hlen : (pack (bs.take k)).length = k / 8 := by rw [pack_length]; unfold nb; simp; omega
        have H8 := Lib.hid h8
        clear h8
        have HL := Lib.hid hlen
        clear hlen
        go_wp2_with (at_builtin; go_must (refine appB _ rfl (.tmp 14) (.tmp 15) rfl (w.heap.size + 1) _ _ rfl (hown.alloc _) wr.heap.size 0 rfl (box_cell _ _ _ _ _ rfl) (by rw [HL.out]; omega) (by simp; omega) ?_); intro g2 cap2 w2 hown2 hbel2)
        have hL : (pack (bs.take k) ++ [0]).length = k / 8 + 1 := by rw [List.length_append, HL.out]; rfl
        have hj : k / 8 < (pack (bs.take k) ++ [0]).length := by omega
        have hx := hown2.cell (k / 8) hj
        have hfr := hown2.frozen (k / 8)
        have hckw : w2.cell? ⟨p, o + k, none⟩ = some (bv (u8s bs)[k]) := by
          rw [hbel2.cell (show p < w.heap.size + 1 by omega), World.cell?_alloc_lt _ _ _ (by show p < wr.heap.size; omega), hbel.cell (show p < w.heap.size + 1 by omega), World.cell?_alloc_lt _ _ _ hpl]
          exact hck
        have hjl : k / 8 < (pack (bs.take k)).length + 1 := by rw [HL.out]; omega
        generalize hX : (pack (bs.take k) ++ [0])[k / 8] = X at hx
        have HX := Lib.hid hX
        clear hX
        have hkl : (k : Int) / 8 < ((pack (bs.take k)).length : Int) + 1 := by omega
        go_region
        go_wp2
        go_roundw
        case measure => simp [intOf]; omega
        case rel =>
          obtain ⟨h1, h2⟩ := of_step hown2 hlt hu (by rw [if_pos H8.out]) (X := X) (by rw [← HX.out]; exact List.getElem?_eq_getElem hj) (hown2.base (by omega))
          exact ⟨k + 1, by omega, by go_num, h1, ((hbel.trans ((Below.refl _ _).alloc (by omega) _)).trans hbel2).trans h2⟩
      · have he : (((k : Int) % 8) == 0) = false := by simp; omega
        have hlen : (pack (bs.take k)).length = k / 8 + 1 := by rw [pack_length]; unfold nb; simp; omega
        have HL := Lib.hid hlen
        obtain ⟨g2, cap2, rfl, hg2, _, _⟩ := hown.form (by omega)
        have hj : k / 8 < (pack (bs.take k)).length := by omega
        have hx := hown.cell (k / 8) hj
        have hfr := hown.frozen (k / 8)
        have hckw : wr.cell? ⟨p, o + k, none⟩ = some (bv (u8s bs)[k]) := by
          rw [hbel.cell (show p < w.heap.size + 1 by omega), World.cell?_alloc_lt _ _ _ hpl]
          exact hck
        generalize hX : (pack (bs.take k))[k / 8] = X at hx
        have HX := Lib.hid hX
        clear hX
        have hkl : (k : Int) / 8 < ((pack (bs.take k)).length : Int) := by omega
        clear hlen
        go_wp2
        go_region
        go_wp2
        go_roundw
        case measure => simp [intOf]; omega
        case rel =>
          obtain ⟨h1, h2⟩ := of_step hown hlt hu (by rw [if_neg h8]) (X := X) (by rw [← HX.out]; exact List.getElem?_eq_getElem hj) hg2
          exact ⟨k + 1, by omega, by go_num, h1, hbel.trans h2⟩
    · obtain rfl : k = bs.length := by omega
      have c0 : wr.cell? ⟨w.heap.size, 0, none⟩ = some (.slice none 0 0) := (hbel.cell (Nat.lt_succ_self _)).trans (box_cell _ _ _ _ _ rfl)
      have c1 : wr.cell? ⟨w.heap.size, 1, none⟩ = some (.int .i64 0) := (hbel.cell (Nat.lt_succ_self _)).trans (box_cell _ _ _ _ _ rfl)
      have f0 : wr.frozen? ⟨w.heap.size, 0, none⟩ = false := (hbel.frozen (Nat.lt_succ_self _)).trans (box_free _ _ _ _)
      have f1 : wr.frozen? ⟨w.heap.size, 1, none⟩ = false := (hbel.frozen (Nat.lt_succ_self _)).trans (box_free _ _ _ _)
      obtain ⟨A', c', rfl, _⟩ := hown.isB
      go_wp2
      refine bodyPost_ret (v := .agg #[.slice A' (pack bs).length c', .int .i64 bs.length]) (by simp [results, Tryd.results26, go_sem, c0, c1]) rfl ?_
      refine ⟨_, _, rfl, ?_, ?_⟩
      · have ho : OwnB wr (w.heap.size + 1) (.slice A' (pack bs).length c') (pack bs) := by simpa using hown
        have hne := ho.ne (Nat.lt_succ_self _)
        exact ((ho.mono (by omega)).far hne _).far hne _
      · exact (((below_alloc _ _).trans (hbel.mono (by omega))).setCell (Nat.le_refl _) _).setCell (Nat.le_refl _) _

end Go.Proofs.YtfooggamdbdniaaDoor
