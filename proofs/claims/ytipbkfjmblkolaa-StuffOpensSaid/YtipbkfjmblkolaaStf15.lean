/- StuffOpens. -/
import Derived.Test.YtipbkfjmblkolaaStf14
namespace Go.Proofs.Ytipbkfjmblkolaa
open Go.RowKit

theorem rbad_of {l : List UInt8} {base : Nat} {e : Ending} {w : World} (h : ∀ o r, l ≠ encL o ++ 0 :: r) (hR : ROpenP l base e w) : e = .returned (.tuple #[.slice none 0 0, .int .i64 0, .int .i64 90]) := by
  rcases hR with ⟨_, h2⟩ | ⟨o', r', A, n, c, h1, _⟩
  · exact h2
  · exact absurd h1 (h o' r')
theorem ropen_of {l o r : List UInt8} {base : Nat} {e : Ending} {w : World} (hl : l = encL o ++ 0 :: r) (h : ROpenP l base e w) :
    ∃ A n c, e = .returned (.tuple #[.slice A n c, .int .i64 (((wrapL o).length : Nat) : Int), .int .i64 0]) ∧ n = o.length ∧ OwnB w base (.slice A n c) o := by
  rcases h with ⟨h1, _⟩ | ⟨o', r', A, n, c, h1, h2, h3, h4⟩
  · exact absurd hl (h1 o r)
  · have := encL_inj (first_zero (encL_noZ o') (encL_noZ o) (h1.symm.trans hl)).1
    subst this
    exact ⟨A, n, c, h2, h3, h4⟩

set_option maxRecDepth 100000 in
set_option maxHeartbeats 2000000 in
theorem stuffOpens_walk (A : Option Addr) (c : Nat) (l : List UInt8) (w : World) (hl : Bs w A l) (hc : l.length ≤ c) (hA : Fm A c) :
    Calls Try.prog 9 #[.slice A l.length c] w fun e w' => e = .returned (.bool true) ∧ Below w.heap.size w w' := by
  rcases Nat.lt_or_ge 2000 l.length with h0 | h0
  · have d1 : decide ((2000 : Int) < l.length) = true := by simp; omega
    have d2 : decide (2000 < l.length) = true := by simp; omega
    go_enter Try.func9, Try.ntmps9
    go_wp2_with (go_at_call 18; refine (stuffKnown_any _).mono ?_; rintro e w1 ⟨rfl, hb1⟩)
    go_ret
    exact ⟨rfl, hb1⟩
  have d1 : decide ((2000 : Int) < l.length) = false := by simp; omega
  have d2 : decide (2000 < l.length) = false := by simp; omega
  have hn : l.length ≤ 100000 := by omega
  have Hc := Lib.hid hc
  have Hn := Lib.hid hn
  have HA := Lib.hid hA
  clear h0 hn hc hA
  go_enter Try.func9, Try.ntmps9
  go_wp2_with fail
  refine (stuffKnown_any _).mono ?_
  rintro e w1 ⟨rfl, hb1⟩
  have a1 := hl.below hb1
  go_wp2_with (at_builtin; go_must (refine appAll _ rfl (.tmp 18) (.tmp 19) rfl w1.heap.size _ [] rfl (OwnB.nil _ _) A c l rfl a1 (by have := Hn.out; simp; omega) (Nat.le_refl _) ?_); intro A3 c3 w3 o3 b3; rw [List.nil_append, List.length_nil, Nat.zero_add] at o3; rw [List.length_nil, Nat.zero_add])
  have a3 := a1.below b3
  have t3 := on hb1 b3
  refine (open_any A3 c3 l _ o3.bs o3.le Hn.out).mono ?_
  rintro e w4 ⟨HP, b4⟩
  have t4 := on t3 b4
  have a4 := a3.below b4
  have o4 := o3.below b4
  rcases HP with ⟨hno, rfl⟩ | ⟨o, r, A4, n4, c4, hyes, rfl, rfl, o5⟩
  · have Hno := Lib.hid hno
    clear hno
    go_wp2_with fail
    refine (refOpen_any A c l _ a4 HA.out Hc.out Hn.out).mono ?_
    rintro e w5 ⟨HR, b5⟩
    obtain rfl := rbad_of Hno.out HR
    have t5 := on t4 b5
    have s1 := str_of (o4.below b5).bs c3
    have s2 := str_of (a4.below b5) c
    have s3 : (convert 22 9 (.slice none 0 0)).run Try.prog w5 = .ok (.string ⟨#[]⟩) w5 := str_of (Bs.nil w5 none) 0
    clear HR
    go_wp2_with fail
    go_ret
    exact ⟨rfl, t5⟩
  · have Hyes := Lib.hid hyes
    have e0 : (encL o).length + 1 = (wrapL o).length := by simp [wrapL]
    rw [e0]
    clear hyes e0
    go_wp2_with fail
    refine (refOpen_any A c l _ a4 HA.out Hc.out Hn.out).mono ?_
    rintro e w5 ⟨HR, b5⟩
    obtain ⟨A5, n5, c5, rfl, rfl, o6⟩ := ropen_of Hyes.out HR
    have t5 := on t4 b5
    have s1 := str_of (o4.below b5).bs c3
    have s2 := str_of (a4.below b5) c
    have s3 := str_of (o5.below b5).bs c4
    have s4 := str_of o6.bs c5
    clear HR
    go_wp2_with fail
    go_ret
    exact ⟨rfl, t5⟩

end Go.Proofs.Ytipbkfjmblkolaa
