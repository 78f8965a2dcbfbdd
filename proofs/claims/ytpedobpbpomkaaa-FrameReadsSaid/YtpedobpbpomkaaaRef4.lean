/- Contracts of the document's own functions of layer 1: Sound. -/
import Derived.Test.YtpedobpbpomkaaaOwn
import Derived.Test.YtpedobpbpomkaaaRef1
namespace Go.Proofs.Ytpedobpbpomkaaa
open Go.RowKit

theorem sound_false {l : List UInt8} {n : Int} (h : ¬ (0 ≤ n ∧ l.length = nb n.toNat ∧ ∀ i, n.toNat ≤ i → bt l i = false)) : soundB l n = false := by
  rw [← soundB_iff] at h; simpa using h
theorem b2u_eq (b : Bool) : (((b2u b).toNat : Int) == 1) = b := by cases b <;> rfl

set_option maxHeartbeats 400000 in
theorem refSound_any (A : Option Addr) (c : Nat) (l : List UInt8) (n : Int) (w : World) (hb : Bs w A l) (hn : -9223372036854775808 ≤ n ∧ n ≤ 9223372036854775807) (hl : l.length ≤ 1099511627776) :
    Calls Try.prog 38 #[.agg #[.slice A l.length c, .int .i64 n]] w fun e w' => e = .returned (.bool (soundB l n)) ∧ Below w.heap.size w w' := by
  by_cases h0 : n < 0
  · have hd : decide (n < 0) = true := by simpa using h0
    go_enter Try.func38, Try.ntmps38
    go_wp2
    go_ret
    exact ⟨ret_bool (sound_false (by omega)).symm, below_alloc _ _⟩
  · have hd : decide (n < 0) = false := by simpa using h0
    obtain ⟨m, rfl⟩ := Int.eq_ofNat_of_zero_le (show 0 ≤ n by omega)
    by_cases h1 : 8 * l.length < m
    · have hg : (8 : Int) * (l.length : Int) < (m : Int) := by omega
      go_enter Try.func38, Try.ntmps38
      go_wp2
      go_ret
      exact ⟨ret_bool (sound_false (by rintro ⟨_, h, _⟩; simp only [nb, Int.toNat_natCast] at h; omega)).symm, below_alloc _ _⟩
    · have hg : ¬ (8 : Int) * (l.length : Int) < (m : Int) := by omega
      by_cases h2 : ¬ l.length = 0 ∧ m ≤ 8 * (l.length - 1)
      · obtain ⟨h2, h3⟩ := h2
        have hg2 : ((l.length : Int) != 0) = true := bne_iff_ne.2 (by omega)
        have hg3 : (m : Int) ≤ 8 * ((l.length : Int) - 1) := by clear hg2; omega
        go_enter Try.func38, Try.ntmps38
        go_wp2
        go_ret
        exact ⟨ret_bool (sound_false (by rintro ⟨_, h, _⟩; simp only [nb, Int.toNat_natCast] at h; omega)).symm, below_alloc _ _⟩
      · have hnb : l.length = nb m := by unfold nb; omega
        have HNB := Lib.hid hnb
        clear hnb
        have key : ∀ (b : Bool), ((l.length : Int) != 0) = b → (b = true → ¬ (m : Int) ≤ 8 * ((l.length : Int) - 1)) → 
            Calls Try.prog 38 #[.agg #[.slice A l.length c, .int .i64 m]] w fun e w' => e = .returned (.bool (soundB l m)) ∧ Below w.heap.size w w' := by
          intro b hg2 hg3
          cases b
          all_goals
            try have hg4 := hg3 rfl
            clear hg3
            go_enter Try.func38, Try.ntmps38
            go_wp2
            go_loopw [3] (fun i wr => ∃ k : Nat, m ≤ k ∧ k ≤ 8 * l.length ∧ i = .int .i64 k ∧ (∀ j, m ≤ j → j < k → bt l j = false) ∧ Below (w.heap.size + 1) (w.alloc (.cells #[.slice A l.length c, .int .i64 m] 28)) wr)
              (fun i _ => 8 * l.length - (intOf i).toNat)
            case atStart => exact ⟨m, Nat.le_refl _, by omega, rfl, fun j h1 h2 => by omega, Below.refl _ _⟩
            case round =>
              obtain ⟨k, hmk, hk, rfl, hz, hbel⟩ := hrel
              have HZ := Lib.hid hz
              clear hz
              have c0 : wr.cell? ⟨w.heap.size, 0, none⟩ = some (.slice A l.length c) := (hbel.cell (Nat.lt_succ_self _)).trans (box_cell _ _ _ _ _ rfl)
              have c1 : wr.cell? ⟨w.heap.size, 1, none⟩ = some (.int .i64 m) := (hbel.cell (Nat.lt_succ_self _)).trans (box_cell _ _ _ _ _ rfl)
              have hBs : Bs wr A l := (hb.below (below_alloc _ _)).below (by simpa using hbel)
              have hsz : w.heap.size + 1 ≤ wr.heap.size := by have := hbel.size; simpa using this
              by_cases hlt : k < 8 * l.length
              · have hltI : (k : Int) < 8 * (l.length : Int) := by omega
                have hbk := b2u_eq (bt l k)
                cases hbt : bt l k
                all_goals
                  rw [hbt] at hbk
                  have HB := Lib.hid hbt
                  clear hbt
                  go_wp2_with (go_at_call 54; refine (refBit_any A c l m k _ hBs (by omega) (by unfold maxLen; omega)).mono ?_; rw [HB.out]; rintro e w1 ⟨rfl, hb1⟩)
                · go_roundw
                  case measure => simp [intOf]; omega
                  case rel =>
                    refine ⟨k + 1, by omega, by omega, by go_num, fun j h1 h2 => ?_, hbel.trans (hb1.mono hsz)⟩
                    rcases Nat.lt_or_ge j k with h | h
                    · exact HZ.out j h1 h
                    · obtain rfl : j = k := by omega
                      exact HB.out
                · go_ret
                  exact ⟨ret_bool (sound_false (by rintro ⟨_, _, h⟩; have := h k (by simpa using hmk); rw [HB.out] at this; cases this)).symm, (below_alloc _ _).trans ((hbel.trans (hb1.mono hsz)).mono (by omega))⟩
              · obtain rfl : k = 8 * l.length := by omega
                have hltI : ¬ ((8 * l.length : Nat) : Int) < 8 * (l.length : Int) := by omega
                go_wp2
                go_ret
                refine ⟨ret_bool ((soundB_iff l m).2 ⟨by omega, HNB.out, fun i hi => ?_⟩).symm, (below_alloc _ _).trans (hbel.mono (by omega))⟩
                rcases Nat.lt_or_ge i (8 * l.length) with h | h
                · exact HZ.out i (by simpa using hi) h
                · exact bt_none l i h
        exact key _ rfl (by simp; omega)

end Go.Proofs.Ytpedobpbpomkaaa
