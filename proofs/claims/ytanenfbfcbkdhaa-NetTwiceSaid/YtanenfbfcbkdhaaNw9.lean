/- Layer 19: heavy. -/
import Derived.Test.YtanenfbfcbkdhaaNw8
set_option linter.unusedSimpArgs false
set_option linter.unusedVariables false
namespace Go.Proofs.Ytanenfbfcbkdhaa
open Go.RowKit
set_option maxRecDepth 100000

/-- what heavy says -/
def heavyL (l : List OpN) : Bool := decide (80 < l.length) || l.any fun o => decide (5000 < o.b.length)
theorem heavyL_no {l : List OpN} (h : heavyL l = false) : l.length ≤ 80 ∧ ∀ o ∈ l, o.b.length ≤ 5000 := by
  unfold heavyL at h
  rw [Bool.or_eq_false_iff] at h
  refine ⟨by have := of_decide_eq_false h.1; omega, fun o ho => ?_⟩
  have := List.any_eq_false.1 h.2 o ho
  simp at this
  omega

set_option maxHeartbeats 2000000 in
theorem nheavy_any (V : Option Addr) (c : Nat) (l : List OpN) (w : World) (hV : Rw w encOp 6 V l) (hl : l.length ≤ maxLen) (hb : ∀ o ∈ l, o.b.length ≤ maxLen) :
    Calls Try.prog 7 #[.slice V l.length c] w fun e w' => e = .returned (.bool (heavyL l)) ∧ w' = w := by
  obtain ⟨n, hn⟩ : ∃ n, n = l.length := ⟨_, rfl⟩
  rw [← hn]
  by_cases h80 : 80 < n
  · have hd : decide ((80 : Int) < (n : Int)) = true := decide_eq_true (by omega)
    have he : heavyL l = true := by unfold heavyL; rw [← hn, decide_eq_true h80]; rfl
    rw [he]
    clear hV hl hb he hn
    go_enter Try.func7, Try.ntmps7
    go_wp2_with fail
    go_ret
    exact ⟨rfl, rfl⟩
  · have hd : decide ((80 : Int) < (n : Int)) = false := decide_eq_false (by omega)
    have hn80 : n ≤ 80 := by omega
    have HV := Lib.hid hV
    have Hn := Lib.hid hn
    have Hb := Lib.hid hb
    have hdn : Hid (decide (80 < l.length) = false) := Lib.hid (by rw [← hn]; exact decide_eq_false h80)
    clear hV hl hb hn h80
    go_enter Try.func7, Try.ntmps7
    go_wp2_with fail
    go_loopw [3] (fun s wr => ∃ k : Nat, k ≤ n ∧ s = .int .i64 k ∧ Hid (wr = w ∧ ∀ o ∈ l.take k, o.b.length ≤ 5000)) (fun s _ => n - (intOf s).toNat)
    case atStart => exact ⟨0, Nat.zero_le _, rfl, Lib.hid ⟨rfl, by simp⟩⟩
    case round =>
      obtain ⟨k, hk, rfl, HR⟩ := hrel
      by_cases hlt : k < n
      · obtain ⟨o, ho⟩ : ∃ o, l[k]? = some o := ⟨_, List.getElem?_eq_getElem (by rw [← Hn.out]; exact hlt)⟩
        obtain ⟨p, f, rfl, hc⟩ := HV.out k o ho
        have c2 := hc 2 _ rfl
        rw [← HR.out.1] at c2
        obtain ⟨b, hbn⟩ : ∃ b, b = o.b.length := ⟨_, rfl⟩
        rw [← hbn] at c2
        have hbm : b ≤ maxLen := by rw [hbn]; exact Hb.out o (List.mem_of_getElem? ho)
        have hkl : (k : Int) < (n : Int) := by omega
        by_cases h5 : 5000 < b
        · have hd2 : decide ((5000 : Int) < (b : Int)) = true := decide_eq_true (by omega)
          have he : Hid (heavyL l = true) := Lib.hid (by
            unfold heavyL
            rw [Bool.or_eq_true]
            right
            exact List.any_eq_true.2 ⟨o, List.mem_of_getElem? ho, decide_eq_true (by rw [← hbn]; exact h5)⟩)
          clear hc h5 hbn
          go_wp2_with fail
          go_ret
          exact ⟨by simp [he.out], HR.out.1⟩
        · have hd2 : decide ((5000 : Int) < (b : Int)) = false := decide_eq_false (by omega)
          have HN : Hid (∀ o ∈ l.take (k + 1), o.b.length ≤ 5000) := Lib.hid (fun x hx => by
            rw [List.take_add_one, ho, List.mem_append] at hx
            rcases hx with h1 | h1
            · exact HR.out.2 x h1
            · simp at h1; subst h1; rw [← hbn]; omega)
          clear hc h5 hbn
          go_wp2_with fail
          go_roundw
          case measure => simp [intOf]; omega
          case rel => exact ⟨k + 1, by omega, by go_num, Lib.hid ⟨HR.out.1, HN.out⟩⟩
      · obtain rfl : k = n := by omega
        have he : Hid (heavyL l = false) := Lib.hid (by
          unfold heavyL
          rw [hdn.out, Bool.false_or]
          apply List.any_eq_false.2
          intro x hx
          have := HR.out.2 x (by rw [Hn.out, List.take_length]; exact hx)
          simp; omega)
        have hkk : ¬ ((k : Int) < (k : Int)) := by omega
        go_wp2_with fail
        go_ret
        exact ⟨by simp [he.out], HR.out.1⟩

end Go.Proofs.Ytanenfbfcbkdhaa
